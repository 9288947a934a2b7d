import PyProof.Rows.All
import Wide.All
import OpenK.AllK
import Wide.FinOn
import HandS.ForMost
import HandS.ForExc
import HandS.ExcInit
import HandS.ExcIs
import HandS.Deep
import HandS.Defaults
import HandS.ExcField
import HandS.ExcValue
import KE.KExcIs
import HandS.Text
import HandS.TupLe
import HandS.IsInst
import HandS.Steps
import HandS.Walk
import HandS.StrMore
import HandS.FStrTup
import HandS.More
import HandS.SlotsOwn
import HandS.RaiseMore
import KE.KCallOwn
import PyProof.InstNe
import HandS.SortKw
import KE.DatumOrd
import KE.GoesEnum
import HandS.Set
import HandS.Sort
import KE.KExcInit
import HandS.Star
import HandS.ClsMeth
import HandS.MethStar
import HandS.NestedK
import KE.KSuper
import HandS.TryOnly
import HandS.New0
import PySem.Challenge.RW_quotehome_k03_stop_and_drop
set_option Elab.async false
set_option linter.all false
set_option maxRecDepth 100000
set_option maxHeartbeats 4000000
/-! Calls where no repr is under way (guards): the def's promise, its body, its call, the law's end. -/
namespace Qh
open PySem PySem.Spec PyProof.Rows L2
section
variable {P : Program} {w : World} {K : PySem.W.Frag} {mg : Str → Option Value} {base : Heap} {CX : CXT} {k : Nat} {f : Addr} {fd : FuncData} {ps : List Str} {sp : Sp}

/-- one call of f, at the around A -/
def RunAt (P : Program) (w : World) (K : PySem.W.Frag) (mg : Str → Option Value) (base : Heap) (CX : CXT) (k : Nat) (f : Addr) (fd : FuncData) (ps : List Str) (sp : Sp) (A : Around) : Prop :=
  ∀ (out : List Env) (t : Shared) (G : Hp) (xs : Args) (us : List Value) (vs : List V) (Q : VK) (E : XK),
    Room k A → Env0 P w K mg base A out t G → BindsTo t fd xs (ps.zip us) → Vals vs us → sp vs G Q E →
      codeAny (model P w) A (.call (.ref f) xs) (CR CX out P w G t Q E) t

/-- the promise of a def that is called where no repr is under way -/
structure FnG (P : Program) (w : World) (K : PySem.W.Frag) (mg : Str → Option Value) (base : Heap) (CX : CXT) (k : Nat) (f : Addr) (fd : FuncData) (ps : List Str) (sp : Sp) : Prop where
  len : ∀ vs G Q E, sp vs G Q E → vs.length = ps.length
  run : ∀ A : Around, A.guards = some [] → RunAt P w K mg base CX k f fd ps sp A

theorem FnG.of (F : FnOk P w K mg base CX k f fd ps sp) : FnG P w K mg base CX k f fd ps sp :=
  ⟨F.len, fun A _ out t G xs us vs Q E hr e0 hb r h => F.run A out t G xs us vs Q E hr e0 hb r h⟩

theorem runAt_of {A : Around} {name qual : Str} {params : Arguments} {body : List Stmt} {scope : Scope} {dV kV doc pm cdv ct oc : Value} {an od : Option Addr} {osl : Array (Option Value)} {N : List Str}
    (lk : K.lookup f = some ⟨oc, od, .func (PySem.W.fnOf name qual params body scope dV kV doc pm an cdv ct), osl⟩)
    (hcd : PySem.W.codeIn K cdv qual = true) (S : FnScope N ps scope)
    (len : ∀ vs G Q E, sp vs G Q E → vs.length = ps.length)
    (hbody : ∀ (out : List Env) (t : Shared) (G : Hp) (vs : List V) (Q : VK) (E : XK),
      Room k (A.deeper (envOfC qual scope t.heap.objs.size f cdv)) → sp vs G Q E →
      ∃ rd, PSs (cxOf CX P w K mg base N qual scope f cdv A out t G E) body rd ∧ rd { nx := fun _ G' => Q .non G', rt := Q } (start N vs) G) :
    RunAt P w K mg base CX (k + 1) f (PySem.W.fnOf name qual params body scope dV kV doc pm an cdv ct) ps sp A := by
  intro out t G xs us vs Q E room e0 binds rel want
  have kin : K.In t.heap := e0.mod.kin.keeps fun a o h => (e0.bs a o h).1
  have nolim : t.heap.NoLimit := e0.mod.nolimit.keeps fun a o h => (e0.bs a o h).1
  have kinds : ∀ y ∈ ps.zip us, scope.names.lookup y.1 = some .local ∨ (scope.names.lookup y.1 = some .cell ∧
      ((cellsFrom (t.heap.objs.size + 1) scope.names []).lookup y.1).isSome = true) := by
    rintro ⟨n, v⟩ hy
    cases S.par n (List.of_mem_zip hy).1 with
    | inl q => exact Or.inl q
    | inr q => exact Or.inr ⟨q, PySem.W.cellsFrom_some _ _ _ (.inl q)⟩
  refine codeAny_call_function room.depth (kin _ _ lk) rfl S.co S.gen rfl (PySem.W.codeRec_of kin hcd) (binds _ _ _ _ ?_)
  refine wpAny_newFunctionEnv_cells S.kind kinds fun env he s1 inside => ?_
  subst he
  refine ⟨nolim.keeps inside.toInCall.keep, codeAny_func ?_⟩
  obtain ⟨rd, hrd, hq⟩ := hbody out t G vs Q E (room.deeper _) want
  have I := inv_start (CX := CX) (E := E) S room.hd e0 (len _ _ _ _ want) rel inside
  refine wpAny_mono (hrd.run [] s1 (start N vs) G _ I hq) ?_ (fun _ _ z => z)
  intro flow s2 hs
  cases flow with
  | ret u =>
    obtain ⟨v, σ', G', J, rv, q⟩ := hs
    exact ⟨v, G', J.os, J.bare, J.base, J.hok, rv, q⟩
  | next =>
    obtain ⟨σ', G', J, q⟩ := hs
    exact ⟨V.non, G', J.os, J.bare, J.base, J.hok, rfl, q⟩
  | brk => exact (hs.elim fun _ z => z.elim fun _ z => z.2).elim
  | cont => exact (hs.elim fun _ z => z.elim fun _ z => z.2).elim

theorem okG {x qual : Str} {st : Stmt} {N : List Str} (F : Fun K x qual st f fd) (S : FnScope N ps (defScope st)) (len : ∀ vs G Q E, sp vs G Q E → vs.length = ps.length)
    (hbody : ∀ (cdv : Value) (A : Around) (out : List Env) (t : Shared) (G : Hp) (vs : List V) (Q : VK) (E : XK), A.guards = some [] →
      Room k (A.deeper (envOfC qual (defScope st) t.heap.objs.size f cdv)) → sp vs G Q E →
      ∃ rd, PSs (cxOf CX P w K mg base N qual (defScope st) f cdv A out t G E) (defBody st) rd ∧ rd { nx := fun _ G' => Q .non G', rt := Q } (start N vs) G) :
    FnG P w K mg base CX (k + 1) f fd ps sp := by
  obtain ⟨oc, od, kV, doc, pm, an, cdv, ct, osl, rfl, lk, hcd⟩ := F.ex
  exact ⟨len, fun A hg => runAt_of lk hcd S len fun out t G vs Q E room want => hbody cdv A out t G vs Q E hg room want⟩
end
section
variable {X : Cx} {CX : CXT} {k : Nat} {f : Addr} {fd : FuncData} {ps : List Str} {sp : Sp} {dvs : List V} {ds : List Value} {E : XK} {x : Str} {p pos : Pos} {e : Expr} {es : List Expr} {t : TA}
end

/-! ### the law's end -/
theorem law_callG {P : Program} {w : World} {K : PySem.W.Frag} {mg mb : Str → Option Value} {CX : CXT} {k : Nat} {fa a : Addr} {fd : FuncData} {x : Str} {sp : Sp} {t : Shared} {vs : List Value} {ns : List Int}
    (kin : K.In t.heap) (hns : t.heap.Ns mainGlobals mg) (hb : t.heap.Ns builtinsNs mb) (hbb : ∀ x : Str, x ≠ "__name__" → mb x = bootBuiltins x) (hlim : t.heap.NoLimit) (hgen : t.gens = #[])
    (ha : t.heap.get? a = some { cls := .type "list", data := .seq vs.toArray }) (hi : IntsAre vs ns) (hl : ns.length ≤ sizeLine) (room : Room k callerA)
    (F : ∀ base : Heap, K.In base → base.Ns mainGlobals mg → FnG P w K mg base CX k fa fd [x] sp) (hbind : ∀ (s : Shared) (u : Value), BindsTo s fd ⟨[u], []⟩ [(x, u)])
    (hsp : ∀ G : Hp, Only G → SqL K G a (ns.map V.int) → sp [.ref a] G (fun v _ => v = .bl true) fun _ _ _ => False)
    (hCX : ∀ G e s', CX [] G t (fun _ _ _ => False) e s' → False) :
    codeAny (model P w) callerA (.call (.ref fa) ⟨[.ref a], []⟩) (fun r s' => r = .ok (.ret (.bool true)) ∧ OldK t.heap s'.heap ∧ s'.os = t.os ∧ AllBare s'.gens) t := by
  have rel := L2.vals_ints hi
  have count := hi.length
  have none_in : ∀ b : Addr, b ∉ frs ([] : List Env) := fun b h => (by simpa [frs] using h)
  -- G tracks nothing but, perhaps, the script
  have main : ∀ G : Hp, Only G → SqL K G a (ns.map V.int) → HOk P w G t.heap → (∀ b u, G b = some u → b = a ∧ K.lookup a = none) →
      codeAny (model P w) callerA (.call (.ref fa) ⟨[.ref a], []⟩) (fun r s' => r = .ok (.ret (.bool true)) ∧ OldK t.heap s'.heap ∧ s'.os = t.os ∧ AllBare s'.gens) t := by
    intro G only seq hok which
    have plain : ∀ {b : Addr} {m : Str → Option Value}, t.heap.Ns b m → (hidT t.heap G).Ns b m := by
      rintro b m ⟨o, es, ep, e, d, r⟩
      refine ⟨o, es, ep, hidT_get e ?_, d, r⟩
      cases q : G b with
      | none => rfl
      | some u =>
        obtain ⟨rfl, _⟩ := which b u q
        rw [ha] at e
        injection e with e
        subst e
        cases d
    have kinB : K.In (hidT t.heap G) := fun b o e => hidT_get (kin b o e) (by
      cases q : G b with
      | none => rfl
      | some u =>
        obtain ⟨rfl, z⟩ := which b u q
        rw [z] at e
        cases e)
    have modB : Mod K mg (hidT t.heap G) := ⟨kinB, plain hns, ⟨mb, plain hb, hbb⟩, by
      obtain ⟨mc, h1, h2⟩ := hlim
      exact ⟨mc, plain h1, h2⟩⟩
    have start0 : Env0 P w K mg (hidT t.heap G) callerA [] t G :=
      { frames := rfl, mod := modB, bs := fun b o e => of_hidT e, bsz := Nat.le_of_eq (hidT_size _ _), funs := trivial, frf := fun b h => absurd h (none_in b), hok := hok, bare := .of_eq hgen }
    refine codeAny_mono ((F _ kinB (plain hns)).run callerA rfl [] t G ⟨[.ref a], []⟩ [.ref a] [.ref a] _ _ room start0 (hbind t (.ref a)) (.cons rfl .nil) (hsp G only seq)) ?_
    rintro (e | fl) s' h
    · exact (hCX G e s' h).elim
    · cases fl with
      | next => exact h.elim
      | brk => exact h.elim
      | cont => exact h.elim
      | ret u =>
        obtain ⟨v, G', hos, bare, un, hok', ru, rfl⟩ := h
        have ru' : u = Value.bool true := ru
        subst ru'
        refine ⟨rfl, OldK.of_keep fun b o e => ?_, hos, bare⟩
        cases q : G b with
        | none => exact un.keep b o e q (none_in b) (by simp)
        | some u =>
          obtain z | ⟨ob, xs, z⟩ := only b
          · rw [q] at z
            cases z
          · have e1 := (hok b _ z).1
            have e2 := (hok' b _ (un.frzs b ob _ z)).1
            rw [e] at e1
            injection e1 with e1
            rw [e1]
            exact e2
  have size : (ns.map V.int).length ≤ sizeLine := by
    rw [List.length_map]
    exact hl
  cases hk : K.lookup a with
  | some o =>
    have e := kin a o hk
    rw [ha] at e
    injection e with e
    subst e
    refine main (fun _ => none) (fun _ => Or.inl rfl) (Or.inr ⟨_, vs.toArray, _, hk, rfl, rfl, rfl, ?_, ?_⟩) (fun b u z => nomatch z) (fun b u z => nomatch z)
    · rw [List.size_toArray, count]
      exact hl
    · rw [List.toList_toArray]
      exact rel
  | none =>
    have at_a : ∀ {b : Addr} {u : HO}, (if b = a then some (HO.frz { cls := .type "list", data := .seq vs.toArray } (.lst (ns.map V.int))) else none) = some u →
        b = a ∧ u = HO.frz { cls := .type "list", data := .seq vs.toArray } (.lst (ns.map V.int)) := by
      intro b u z
      split at z
      · rename_i hb
        injection z with z
        exact ⟨hb, z.symm⟩
      · cases z
    refine main (fun b => if b = a then some (.frz { cls := .type "list", data := .seq vs.toArray } (.lst (ns.map V.int))) else none) ?_ (Or.inl (Or.inr ⟨_, if_pos rfl⟩)) ?_ (fun b u z => ⟨(at_a z).1, hk⟩)
    · intro b
      by_cases hb : b = a
      · exact Or.inr ⟨_, _, if_pos hb⟩
      · exact Or.inl (if_neg hb)
    · intro b u z
      obtain ⟨rfl, rfl⟩ := at_a z
      exact ⟨ha, size, vs, _, rel, ha⟩

theorem walk_ofG {l : PySem.W.OpenLaw} {n k : Nat} {q : Program} {loose : List Str} {XP : (Str → Option Value) → Heap → Prop} {YP : World → Heap → Prop} {d : DefRec} {K : Params → PySem.W.Frag} {CX : World → CXT} {sp : World → Sp} {x : Str}
    (hn : l.most = some n) (hn2 : n ≤ sizeLine) (hdf : d.params.defaults = []) (room : Room k callerA)
    (hY : ∀ (w : World) (h : Heap), YP w h → (K w.params).In h)
    (F : ∀ (w : World) (mg : Str → Option Value) (fa : Addr) (h : Heap), (K w.params).In h → h.Ns mainGlobals mg → mg d.name = some (.ref fa) →
      ∃ fd : FuncData, (∀ (s : Shared) (u : Value), BindsTo s fd ⟨[u], []⟩ [(x, u)]) ∧
        ∀ base : Heap, (K w.params).In base → base.Ns mainGlobals mg → FnG l.prog w (K w.params) mg base (CX w) k fa fd [x] (sp w))
    (hsp : ∀ (w : World) (G : Hp) (a : Addr) (ns : List Int), ns.length ≤ n → Only G → SqL (K w.params) G a (ns.map V.int) → sp w [.ref a] G (fun v _ => v = .bl true) fun _ _ _ => False)
    (hCX : ∀ (w : World) (G : Hp) (s : Shared) (e : Value) (s' : Shared), CX w [] G s (fun _ _ _ => False) e s' → False) :
    PySem.W.WalkO q loose XP YP l.row.toRowW d [] (fun f vs => PySem.call f vs) := by
  refine Att.attach_call hn hdf ?_
  intro w s0 s1 mg mb fa o pm cd doc a vs ns Gr Y ho hd hcd hmg hobj hints hlen hgen
  obtain ⟨fd, hb, hF⟩ := F w mg fa _ (hY w _ Y) Gr.T.g hmg
  exact law_callG (hY w _ Y) Gr.T.g Gr.T.b Gr.T.builtins Gr.T.nolimit hgen hobj hints (Nat.le_trans hlen hn2) room hF hb (fun G only seq => hsp w G a ns hlen only seq) fun G e s' => hCX w G s1 e s'
end Qh
set_option Elab.async false
set_option linter.all false
set_option maxRecDepth 100000
set_option maxHeartbeats 4000000
/-! An error that is caught and then kept under a name of the def: the object itself is tracked. -/
namespace Qh
open PySem PySem.Spec PyProof.Rows L2

/-- at a: an error object of the class cls, its own dict at d -/
def exk (cls : Value) (d : Option Addr) (a : Addr) : HO := .ext fun h => ∃ (oe : Obj) (vs : Array Value), h.get? a = some oe ∧ oe.cls = cls ∧ oe.dict = d ∧ oe.data = .fields vs

theorem exk_ok {P : Program} {w : World} {G : Hp} {h : Heap} {a : Addr} {oe : Obj} {vs : Array Value} (e : h.get? a = some oe) (d : oe.data = .fields vs) : ObjOk P w G h a (exk oe.cls oe.dict a) :=
  ⟨⟨oe, vs, e, rfl, rfl, d⟩, ⟨oe, e⟩, fun h1 h2 ⟨o, v, e1, r⟩ k => ⟨o, v, k o e1, r⟩⟩

section
variable {X : Cx} {pins : List (Addr × Obj)} {σ : L2.St} {G : Hp} {s : Shared}
theorem Inv.kept_err {a : Addr} {oe : Obj} {vs : Array Value} (I : Inv X pins σ G s) (hg : s.heap.get? a = some oe) (hd : oe.data = .fields vs) (na : G a = none) (nL : a ≠ X.env.locals)
    (n0 : X.s_0.heap.get? a = none) (np : ∀ p ∈ X.pn ++ pins, p.1 ≠ a) : Inv X pins σ (upd G a (exk oe.cls oe.dict a)) s := by
  have other : ∀ {b : Addr} {o : HO}, G b = some o → upd G a (exk oe.cls oe.dict a) b = some o := fun {b o} e => by
    rw [upd_ne (ne_of_none e na)]
    exact e
  have old : ∀ {b : Addr} {o : Obj}, X.s_0.heap.get? b = some o → b ≠ a := fun {b o} e z => by
    rw [z, n0] at e
    cases e
  refine ⟨I.ok, I.os, I.bare, ⟨I.base.keep, I.base.slot, fun b o e n x => ?_, I.base.there, fun b xs e => other (I.base.tups b xs e), fun b o u e => other (I.base.frzs b o u e), fun b ps e => ?_⟩, I.loc, I.cell, ?_, fun x c e => ?_, fun p hp => ?_,
    HOk.laidN I.hok (fun _ _ z => z) na (exk_ok hg hd), I.len⟩
  · rw [upd_ne (old e)]
    exact I.base.free b o e n x
  · obtain ⟨more, q⟩ := I.base.tbls b ps e
    exact ⟨more, other q⟩
  · rw [upd_ne nL.symm]
    exact I.free
  · have ne : c ≠ a := fun z => by
      obtain ⟨v, o, e1, e2⟩ := I.cell x c e
      rw [z, hg] at e1
      injection e1 with e1
      rw [← e1, hd] at e2
      cases e2
    rw [upd_ne ne]
    exact I.freeC x c e
  · obtain ⟨h1, h2, h3⟩ := I.pin p hp
    refine ⟨h1, ?_, h3⟩
    rw [upd_ne (np p hp)]
    exact h2
end

/-- what the clause 'except x as n: c = n' wishes of an error of the body: n has slot i, c slot j -/
def wHeld (K : PySem.W.Frag) (c : Value) (i j : Nat) (Wout : WX) (D : Ends) : WX := fun cls d σ G =>
  ∃ b, PySem.W.exmOne K cls c = some b ∧ (b = true → ∀ a, G a = none → D.nx (((σ.set i (some (.ref a))).set j (some (.ref a))).set i none) (upd G a (exk cls d a))) ∧ (b = false → Wout cls d σ G)

section
variable {X : Cx} {x n y : Str} {c : Value} {i j : Nat} {body : List Stmt} {np p1 p2 p3 pos pos' : Pos} {tb : WX → TS} {Wout : WX}
theorem ps_try_held (hs : X.stack = X.env :: X.outer) (hf : X.env.frame = some X.env.locals) (hex : X.ex = []) (hN : X.N.Nodup) (hi : X.N[i]? = some n) (hln : X.env.kindOf n = some .local)
    (hj : X.N[j]? = some y) (hly : X.env.scope.names.lookup y = some .local) (hdb : (n == ("__debug__" : Str)) = false) (hdc : (n == ("__classdict__" : Str)) = false)
    (hsw : swapsWith (.Name n p2) (some (.Name y p1)) p3.line X.env = pure false)
    (hc : Names X x c) (tk : Takes X Wout)
    (hb : ∀ (W : WX) (pn : List (Addr × Obj)) (xe : Value → Shared → Prop), Takes (X.tr pn xe) W → PassesOwn (model X.prog X.w) X.A X.env xe → PSs (X.tr pn xe) body (tb W)) :
    PS X (.Try body [.ExceptHandler (some (.Name x np)) (some n) [.Assign [.Name y p1] (.Name n p2) p3] pos'] [] [] pos) (fun D σ G => tb (wHeld X.K c i j Wout D) D σ G) := by
  constructor
  intro pins s σ G D I h
  have ok := I.ok
  have frames : X.A.frames = some (X.env :: X.outer) := by rw [ok.frames, hs]
  have hloc : Loc X.env.scope n := Or.inl hln
  have hlen : i < σ.length := by
    rw [I.len]
    exact (List.getElem?_eq_some_iff.mp hi).1
  refine wpAny_Try_except ?_
  refine wpAny_mono ((hb (wHeld X.K c i j Wout D) (X.pn ++ pins) (fun e s1 => wpAny (model X.prog X.w) X.A (noteFrame e X.env) (fun _ s2 => wpAny (model X.prog X.w) X.A (setFlight e none) (fun _ s3 =>
    wpAny (model X.prog X.w) X.A (handleBy e X.env [.ExceptHandler (some (.Name x np)) (some n) [.Assign [.Name y p1] (.Name n p2) p3] pos']) (SP X pins D) X.xe s3) X.xe s2) X.xe s1) ?_ PassesOwn.looking).run [] s σ G D (I.toTry _) h) ?_ (fun _ _ z => z)
  · rintro u s' ⟨a, B, sI, pins', σ', G', cls, d, rfl, J', nb, up, sky, na, os, ag, b, hb1, hyes, hno⟩
    have J : Inv X pins σ' G' sI := J'.ofTry ok
    have sky' : Sky B (X.env :: X.outer) a (Zc cls d) X.env.locals s'.heap := hs ▸ sky
    have Bno : B.get? a = none := by
      rcases sky with z | z | z
      · exact z.2.1
      · exact z.2.1
      · exact z.2.1
    show wpAny (model X.prog X.w) X.A (noteFrame (.ref a) X.env) _ _ _
    refine Sky.land Zc.steady frames hf sky' fun h3 fl3 up3 => ?_
    have J3 : Inv X pins σ' G' { s' with heap := h3 } := J.landed nb fl3.1 (up.trans up3) os ag
    obtain ⟨oe3, vs3, he3, hz3, hd3⟩ := fl3.there
    have outside : a ∉ frs (X.env :: X.outer) := fun hm => by
      obtain ⟨_, o', e', z⟩ := fl3.2.2.1.mem hm
      rw [he3] at e'
      injection e' with e'
      subst e'
      exact z _ hd3
    have nL : a ≠ X.env.locals := fun z => outside (List.mem_filterMap.mpr ⟨X.env, List.mem_cons_self, by rw [hf, z]⟩)
    have nF : a ∉ X.fs := fun hm => by
      obtain ⟨e, he, q⟩ := List.mem_filterMap.mp hm
      exact outside (List.mem_filterMap.mpr ⟨e, List.mem_cons_of_mem _ he, q⟩)
    have fresh : ∀ {b : Addr} {o : Obj}, sI.heap.get? b = some o → b ∉ frs X.stack → b ≠ a := fun {b o} e hm z => by
      have q := nb b o e hm
      rw [z, Bno] at q
      cases q
    have n0 : X.s_0.heap.get? a = none := by
      cases q : X.s_0.heap.get? a with
      | none => rfl
      | some o =>
        obtain ⟨o', e'⟩ := J.base.there a o q (by rw [hex]; simp)
        exact absurd rfl (fresh e' (hs ▸ outside))
    have npin : ∀ p ∈ X.pn ++ pins, p.1 ≠ a := fun p hp => by
      obtain ⟨q1, _, q3, q4, _⟩ := J.pin p hp
      refine fresh q1 fun hm => ?_
      rw [hs] at hm
      obtain ⟨e, he, q⟩ := List.mem_filterMap.mp hm
      rcases List.mem_cons.mp he with rfl | he
      · rw [hf] at q
        injection q with q
        exact q3 q.symm
      · exact q4 (List.mem_filterMap.mpr ⟨e, he, q⟩)
    have S3 := J3.suite he3 hd3 na nL nF
    refine wpAny_handleBy_cons (codeAny_handlers_test ?_) (by intro q; cases q)
    have LT : PySem.W.Looks (model X.prog X.w) h3 (typeOf (.ref a)) cls := fun A Q E s k q => wpAny_typeOf_ref (k _ _ he3) (by rw [hz3.1]; exact q)
    have LM := PySem.W.exm_one (M := model X.prog X.w) (J3.kIn) LT hb1
    have test : ∀ {Q : Value → Shared → Prop} {E : Value → Shared → Prop}, Q c { s' with heap := h3 } → wpAny (model X.prog X.w) (X.A.mark (some (.ref a))) (eval (.Name x np) X.env) Q E { s' with heap := h3 } := fun {Q E} q => by
      obtain ⟨hg, hdbg, hm | ⟨hm, hv, hnn⟩⟩ := hc
      · exact ld_glob (X := X.suite a ((a, oe3) :: (X.pn ++ pins))) S3 hg hm q hdbg
      · exact ld_blt (X := X.suite a ((a, oe3) :: (X.pn ++ pins))) S3 hg hm hv q hnn hdbg
    refine test (LM.here ?_)
    cases b with
    | true =>
      refine codeAny_handlers_suite_as ?_
      refine HandSPX.lands_againZ fl3 fun h4 fl4 up4 => ?_
      have J4 : Inv X pins σ' G' { s' with heap := h4 } := J.landed nb fl4.1 ((up.trans up3).trans up4) os ag
      obtain ⟨oe4, vs4, he4, hz4, hd4⟩ := fl4.there
      have S4 := J4.suite he4 hd4 na nL nF
      have hlen' : i < σ'.length := by
        rw [J.len]
        exact (List.getElem?_eq_some_iff.mp hi).1
      refine store_ok (X := X.suite a ((a, oe4) :: (X.pn ++ pins))) (v := .ref a) S4 hN hi hloc rfl (fun s5 S5 => ?_) (.inr hln)
      have asg : PSs (X.suite a ((a, oe4) :: (X.pn ++ pins))) [.Assign [.Name y p1] (.Name n p2) p3] (tAsg (tVar i) (gName j)) :=
        pss_one (ps_set hN hj (Or.inl hly) (pe_var hi (Or.inl hln) hdb hdc) hsw (.inr hly))
      refine wpAny_mono (asg.run [] s5 _ G' { nx := fun σ6 G6 => σ6 = (σ'.set i (some (.ref a))).set j (some (.ref a)) ∧ G6 = G', rt := fun _ _ => False } S5 ⟨.ref a, List.getElem?_set_self hlen', rfl, rfl⟩) ?_ (fun _ _ z => z.elim)
      intro f s6 hsp
      cases f with
      | next =>
        obtain ⟨σ6, G6, S6, rfl, rfl⟩ := hsp
        have pinned := S6.pin (a, oe4) (List.mem_append_left _ List.mem_cons_self)
        have J6 := Qh.Inv.kept_err (S6.unsuite ok) pinned.1 hd4 na nL n0 npin
        rw [hz4.1, hz4.2] at J6
        exact gone_ok J6 hN hi hln fun s7 J7 => ⟨_, _, J7, hyes rfl a na⟩
      | brk => exact (hsp.elim fun _ z => z.elim fun _ z => z.2).elim
      | cont => exact (hsp.elim fun _ z => z.elim fun _ z => z.2).elim
      | ret u => exact (hsp.elim fun _ z => z.elim fun _ z => z.elim fun _ z => z.2.2).elim
    | false =>
      show wpAny _ X.A (handleBy (.ref a) X.env []) _ _ _
      refine wpAny_handleBy_nil ?_
      obtain ⟨k1, k2, k3, oe, vs, T, oT, ts', he, hz, hd, h1, hr⟩ := id fl3
      unfold PySem.passOn
      refine wpAny_bind (wpAny_field he hd h1 ?_)
      rw [if_neg (show ¬ ((Value.ref T == Value.none) = true) from by simp)]
      have fin : wpAny (model X.prog X.w) X.A (setFlight (.ref a) X.env.frame) (fun _ s4 => wpAny (model X.prog X.w) X.A (throw (.ref a) : Sem Flow) (SP X pins D) X.xe s4) X.xe { s' with heap := h3 } := by
        rw [hf]
        refine HandSPX.setFlight_upZ fl3 fun h4 hh4 up4 => wpAny_throw (tk _ _ ?_)
        exact ⟨a, B, sI, pins, σ', G', cls, d, rfl, J, nb, (up.trans up3).trans up4, .inr (.inr (by rw [hs]; exact hh4)), na, os, ag, hno rfl⟩
      first
        | exact wpAny_bind (wpAny_pure (wpAny_bind fin))
        | exact wpAny_bind fin
  · intro f s1 hsp
    cases f with
    | next =>
      obtain ⟨σ1, G1, J1, q⟩ := hsp
      exact wpAny_execs_nil ⟨σ1, G1, J1.ofTry ok, q⟩
    | brk =>
      obtain ⟨σ1, G1, J1, q⟩ := hsp
      exact ⟨σ1, G1, J1.ofTry ok, q⟩
    | cont =>
      obtain ⟨σ1, G1, J1, q⟩ := hsp
      exact ⟨σ1, G1, J1.ofTry ok, q⟩
    | ret u =>
      obtain ⟨v, σ1, G1, J1, r, q⟩ := hsp
      exact ⟨v, σ1, G1, J1.ofTry ok, r, q⟩
end
/-! ### the kept error: its fields, isinstance -/
/-- e.f -/
def tErrF (K : PySem.W.Frag) (f : Str) (te : TE) : TE := fun σ G Q => te σ G fun x G1 => ∃ (a C d : Addr) (fs : List (Str × V)) (v : V), x = .ref a ∧ G1 a = some (exk (.ref C) (some d) a) ∧ G1 d = some (.xd fs) ∧
  XfC K C ∧ PySem.W.findIn K (.ref C) f = some none ∧ fs.lookup f = some v ∧ Q v G1
theorem pe_errF {X : Cx} {e : Expr} {te : TE} {pos : Pos} {f : Str} (he : PE X e te) (hb : attributeBase e f X.env (eval e X.env) = eval e X.env := by rfl) : PE X (.Attribute e f pos) (tErrF X.K f te) := by
  constructor
  intro pins s σ G Q I h
  refine attr_of hb (thn (he.run pins s σ G _ I h) ?_)
  rintro u s1 ⟨x, G1, I1, rx, a, C, dd, fs, v, rfl, ek, ed, T, hno, l, q⟩
  obtain rfl : u = Value.ref a := rx
  obtain ⟨⟨oe, vs, ha, hcls, hdict, hdata⟩, _⟩ := I1.hok a _ ek
  obtain ⟨mA, hns, hr⟩ := I1.hok dd _ ed
  obtain ⟨od, ho, hl⟩ := lookIn_ns hns
  obtain ⟨u, hu, ru⟩ := RelO.some_of (v := v) (o := mA f) (by rw [← l]; exact hr f)
  have J : PySem.W.InstAt s1.heap a oe C (some od) := ⟨ha, hcls, by unfold PySem.W.notCls; rw [hdata] <;> rfl, by rw [hdict]; exact ho⟩
  exact HandSPX.exc_get I1.kIn J T.ga T.gg T.exC (PySem.W.findObj_own T.hdC hno rfl (by rw [hl, hu])) (handed_of ru) ⟨v, G1, I1.tok _, ru, q⟩

/-- isinstance(e, c), e a kept error of the class at D -/
def rErrIs (K : PySem.W.Frag) : List V → Hp → VK → Prop := fun xs G Q => ∃ (a D d : Addr) (fs : List (Str × V)) (c : V) (cv : Value) (b : Bool), xs = [.ref a, c] ∧ G a = some (exk (.ref D) (some d) a) ∧ G d = some (.xd fs) ∧ ExcC K D ∧ (∀ u, RelV c u → u = cv) ∧ PySem.W.kitOne K (.ref D) cv = some b ∧ Q (.bl b) G
theorem call_errIs {X : Cx} : CallR X (.builtin "isinstance") (rErrIs X.K) := by
  rintro pins s σ G xs us Q I r ⟨a, D, d, fs, c, cv, b, rfl, ek, ed, C, hcv, e, q⟩
  obtain ⟨u1, u2, rfl, r1, r2⟩ := vals2 r
  obtain rfl : u1 = Value.ref a := r1
  obtain rfl := hcv _ r2
  obtain ⟨⟨oe, vs, ha, hcls, hdict, hdata⟩, _⟩ := I.hok a _ ek
  obtain ⟨mA, hns, hr⟩ := I.hok d _ ed
  obtain ⟨od, ho, hl⟩ := lookIn_ns hns
  have J : PySem.W.InstAt s.heap a oe D (some od) := ⟨ha, hcls, by unfold PySem.W.notCls; rw [hdata] <;> rfl, by rw [hdict]; exact ho⟩
  have hcl : (PySem.W.clsIn X.K D).isSome = true := by
    obtain ⟨cd, hc, _⟩ := PySem.W.any_some C.hd
    rw [hc]
    rfl
  exact PySem.W.kia_one (PySem.W.kitx_exc hcl C.hg C.hk C.hs C.ha C.hn C.ht C.hm) I.kIn J e (fun z => nomatch z) fun tk => ⟨.bl b, G, I.kept (t' := tk) fun _ _ z => z, rfl, q⟩
end Qh
set_option Elab.async false
set_option linter.all false
set_option maxRecDepth 100000
set_option maxHeartbeats 4000000
/-! Own defs by name: what stands behind the top, how they are called. -/
namespace Qh
open PySem PySem.Spec PyProof.Rows L2

/-- the def x of the module keeps sp -/
structure Ok (P : Program) (w : World) (K : PySem.W.Frag) (mg : Str → Option Value) (base : Heap) (x : Str) (pa : Arguments) (ps : List Str) (k : Nat) (sp : Sp) : Prop where
  ex : ∃ (f : Addr) (body : List Stmt) (scope : Scope) (kV doc pm : Value) (an : Option Addr) (cdv ct : Value), mg x = some (.ref f) ∧ PySem.W.keepIn K (.ref f) = true ∧
    (∀ us : List Value, us.length = ps.length → bindArgs (PySem.W.fnOf x x pa body scope .none kV doc pm an cdv ct) ⟨us, []⟩ = pure (ps.zip us)) ∧
    FnOk P w K mg base (L2.CX P w) k f (PySem.W.fnOf x x pa body scope .none kV doc pm an cdv ct) ps sp
/-- .. where no repr is under way -/
structure OkG (P : Program) (w : World) (K : PySem.W.Frag) (mg : Str → Option Value) (base : Heap) (x : Str) (pa : Arguments) (ps : List Str) (k : Nat) (sp : Sp) : Prop where
  ex : ∃ (f : Addr) (body : List Stmt) (scope : Scope) (kV doc pm : Value) (an : Option Addr) (cdv ct : Value), mg x = some (.ref f) ∧ PySem.W.keepIn K (.ref f) = true ∧
    (∀ us : List Value, us.length = ps.length → bindArgs (PySem.W.fnOf x x pa body scope .none kV doc pm an cdv ct) ⟨us, []⟩ = pure (ps.zip us)) ∧
    FnG P w K mg base (L2.CX P w) k f (PySem.W.fnOf x x pa body scope .none kV doc pm an cdv ct) ps sp

section
variable {X : Cx} {W : WX} {k : Nat} {ps : List Str} {sp : Sp} {pa : Arguments} {x : Str} {p pos : Pos} {e : Expr} {es : List Expr} {t : TA}
theorem bindsOf {K : PySem.W.Frag} {x : Str} {pa : Arguments} {body : List Stmt} {scope : Scope} {kV doc pm : Value} {an : Option Addr} {cdv ct : Value} {ps : List Str}
    (h : ∀ us : List Value, us.length = ps.length → bindArgs (PySem.W.fnOf x x pa body scope .none kV doc pm an cdv ct) ⟨us, []⟩ = pure (ps.zip us)) : Binds K (PySem.W.fnOf x x pa body scope .none kV doc pm an cdv ct) ps [] := .all h
/-- f(e, ..), f a def of the module -/
theorem pe_own (F : Ok X.prog X.w X.K X.mg X.base x pa ps k sp) (hr : Room k X.A) (tk : Takes X W) (ha : PA X (e :: es) t) (hg : Gl X x := by rfl) (hdb : (x == ("__debug__" : Str)) = false := by decide)
    (he : starEach (e :: es) X.env = (false, eval e X.env) :: starEach es X.env := by rfl) (hpl : (backTo pos (starEach es X.env)).any (·.1) = false := by rfl) :
    PE X (.Call (.Name x p) (e :: es) [] pos) (tCallS sp (WE W) t) := by
  obtain ⟨f, body, scope, kV, doc, pm, an, cdv, ct, hm, hk, hb, F⟩ := F.ex
  exact pe_callS F hr hg hm hk (bindsOf hb) (fun σ => passAt tk σ) ha hdb he hpl
/-- f() -/
theorem pe_own0 (F : Ok X.prog X.w X.K X.mg X.base x pa [] k sp) (hr : Room k X.A) (hg : Gl X x := by rfl) (hdb : (x == ("__debug__" : Str)) = false := by decide) :
    PE X (.Call (.Name x p) [] [] pos) (tCall sp [] E0 tNil) := by
  obtain ⟨f, body, scope, kV, doc, pm, an, cdv, ct, hm, hk, hb, F⟩ := F.ex
  exact pe_call0 F hr hg hm hk (bindsOf hb) .nil passL hdb
/-! ### keywords alone, where errors are wished for at the caller's slots -/
end

/-! ### a def as the top has left it -/
structure DefIn (K : PySem.W.Frag) (mg : Str → Option Value) (x : Str) (st : Stmt) : Prop where
  ex : ∃ (f : Addr) (fd : FuncData), Fun K x x st f fd ∧ mg x = some (.ref f)
section
variable {P : Program} {w : World} {K : PySem.W.Frag} {mg : Str → Option Value} {base : Heap} {x : Str} {st : Stmt} {N ps : List Str} {k : Nat} {sp : Sp}
/-- its promise, by its body -/
theorem DefIn.ok (D : DefIn K mg x st) (S : FnScope N ps (defScope st)) (len : ∀ vs G Q E, sp vs G Q E → vs.length = ps.length)
    (hbind : ∀ (kV doc pm : Value) (an : Option Addr) (cdv ct : Value) (us : List Value), us.length = ps.length → bindArgs (PySem.W.fnOf x x (defArgs st) (defBody st) (defScope st) .none kV doc pm an cdv ct) ⟨us, []⟩ = pure (ps.zip us))
    (hbody : ∀ (f : Addr) (cdv : Value) (A : Around) (out : List Env) (t : Shared) (G : Hp) (vs : List V) (Q : VK) (E : XK), Room k (A.deeper (envOfC x (defScope st) t.heap.objs.size f cdv)) → sp vs G Q E →
      ∃ rd, PSs (cxOf (L2.CX P w) P w K mg base N x (defScope st) f cdv A out t G E) (defBody st) rd ∧ rd { nx := fun _ G' => Q .non G', rt := Q } (start N vs) G) :
    Ok P w K mg base x (defArgs st) ps (k + 1) sp := by
  obtain ⟨f, fd, F, hm⟩ := D.ex
  have G : FnOk P w K mg base (L2.CX P w) (k + 1) f fd ps sp := F.okX S len fun cdv A out t G vs Q E room want => hbody f cdv A out t G vs Q E room want
  obtain ⟨oc, od, kV, doc, pm, an, cdv, ct, osl, rfl, lk, hcd⟩ := F.ex
  exact ⟨⟨f, _, _, kV, doc, pm, an, cdv, ct, hm, F.kp, fun us hl => hbind kV doc pm an cdv ct us hl, G⟩⟩
theorem DefIn.okG (D : DefIn K mg x st) (S : FnScope N ps (defScope st)) (len : ∀ vs G Q E, sp vs G Q E → vs.length = ps.length)
    (hbind : ∀ (kV doc pm : Value) (an : Option Addr) (cdv ct : Value) (us : List Value), us.length = ps.length → bindArgs (PySem.W.fnOf x x (defArgs st) (defBody st) (defScope st) .none kV doc pm an cdv ct) ⟨us, []⟩ = pure (ps.zip us))
    (hbody : ∀ (f : Addr) (cdv : Value) (A : Around) (out : List Env) (t : Shared) (G : Hp) (vs : List V) (Q : VK) (E : XK), A.guards = some [] → Room k (A.deeper (envOfC x (defScope st) t.heap.objs.size f cdv)) → sp vs G Q E →
      ∃ rd, PSs (cxOf (L2.CX P w) P w K mg base N x (defScope st) f cdv A out t G E) (defBody st) rd ∧ rd { nx := fun _ G' => Q .non G', rt := Q } (start N vs) G) :
    OkG P w K mg base x (defArgs st) ps (k + 1) sp := by
  obtain ⟨f, fd, F, hm⟩ := D.ex
  have G : FnG P w K mg base (L2.CX P w) (k + 1) f fd ps sp := Qh.okG F S len fun cdv A out t G vs Q E gu room want => hbody f cdv A out t G vs Q E gu room want
  obtain ⟨oc, od, kV, doc, pm, an, cdv, ct, osl, rfl, lk, hcd⟩ := F.ex
  exact ⟨⟨f, _, _, kV, doc, pm, an, cdv, ct, hm, F.kp, fun us hl => hbind kV doc pm an cdv ct us hl, G⟩⟩
end
end Qh
set_option Elab.async false
set_option linter.all false
set_option maxRecDepth 100000
set_option maxHeartbeats 4000000
/-! What every law of this table brings: built-in names, repr of data, the pen. -/
namespace Qh
open PySem PySem.Spec PyProof.Rows L2

/-- the built-in names that the module leaves alone -/
structure Blt (mg : Str → Option Value) : Prop where
  n_len : mg "len" = none
  n_int : mg "int" = none
  n_abs : mg "abs" = none
  n_list : mg "list" = none
  n_tuple : mg "tuple" = none
  n_range : mg "range" = none
  n_repr : mg "repr" = none
  n_all : mg "all" = none
  n_any : mg "any" = none
  n_isinstance : mg "isinstance" = none
  n_str : mg "str" = none
  n_bool : mg "bool" = none
  n_dict : mg "dict" = none
  n_set : mg "set" = none
  n_sorted : mg "sorted" = none
  n_enumerate : mg "enumerate" = none
  n_zip : mg "zip" = none
  n_max : mg "max" = none
  n_sum : mg "sum" = none
  n_min : mg "min" = none
  n_reversed : mg "reversed" = none

theorem bt_len : bootBuiltins "len" = some (.builtin "len") := by decide +kernel
theorem bt_abs : bootBuiltins "abs" = some (.builtin "abs") := by decide +kernel
theorem bt_int : bootBuiltins "int" = some (.type "int") := by decide +kernel
theorem bt_list : bootBuiltins "list" = some (.type "list") := by decide +kernel
theorem bt_tuple : bootBuiltins "tuple" = some (.type "tuple") := by decide +kernel
theorem bt_str : bootBuiltins "str" = some (.type "str") := by decide +kernel
theorem bt_set : bootBuiltins "set" = some (.type "set") := by decide +kernel
theorem bt_isinstance : bootBuiltins "isinstance" = some (.builtin "isinstance") := by decide +kernel
theorem bt_sorted : bootBuiltins "sorted" = some (.builtin "sorted") := by decide +kernel
/-! ### repr of data, where no repr is under way -/
section
variable {X : Cx}
end

/-! ### the pen: the script's cells, how many are read, what is left of a great cell -/
def Pen (G : Hp) (p l : Addr) (c : Int) : Prop :=
  ∃ (n g : Int) (ns : List Int), G p = some (.lst [.ref l, .int n, .int g]) ∧ G l = some (.lst (ns.map V.int)) ∧ l ≠ p ∧ 0 ≤ n ∧ n ≤ c ∧ 0 ≤ g
/-- all that was tracked but p is as it was -/
def Kp (p : Addr) (G G' : Hp) : Prop := ∀ b o, b ≠ p → G b = some o → G' b = some o
theorem Kp.refl (p : Addr) (G : Hp) : Kp p G G := fun _ _ _ h => h
theorem Kp.trans {p : Addr} {G G1 G2 : Hp} (a : Kp p G G1) (b : Kp p G1 G2) : Kp p G G2 := fun x o n h => b x o n (a x o n h)
theorem Kp.new {p q : Addr} {G : Hp} {o : HO} (h : G q = none) : Kp p G (upd G q o) := fun b u _ e => by
  rw [upd_ne (ne_of_none e h)]
  exact e
theorem Kp.self {p : Addr} {G : Hp} {o : HO} : Kp p G (upd G p o) := fun b u n e => by
  rw [upd_ne n]
  exact e
theorem Kp.same {p : Addr} {G G' : Hp} (h : Same G G') : Kp p G G' := fun b o _ e => h b o e
theorem Same.new {q : Addr} {G : Hp} {o : HO} (h : G q = none) : Same G (upd G q o) := fun b u e => by
  rw [upd_ne (ne_of_none e h)]
  exact e
/-- an object that was not there before may change -/
theorem Kp.fresh {p q : Addr} {G G' : Hp} {o : HO} (k : Kp p G G') (h : G q = none) : Kp p G (upd G' q o) := fun b u n e => by
  rw [upd_ne (ne_of_none e h)]
  exact k b u n e
theorem Kp.free {p q : Addr} {G G' : Hp} (k : Kp p G G') (n : q ≠ p) (h : G' q = none) : G q = none := by
  cases e : G q with
  | none => rfl
  | some o =>
    rw [k q o n e] at h
    cases h
theorem Pen.mono {G : Hp} {p l : Addr} {c c' : Int} (P : Pen G p l c) (h : c ≤ c') : Pen G p l c' := by
  obtain ⟨n, g, ns, h1, h2, h3, h4, h5, h6⟩ := P
  exact ⟨n, g, ns, h1, h2, h3, h4, Int.le_trans h5 h, h6⟩
/-- an object that is neither the pen nor its cells may change -/
theorem Pen.upd {G : Hp} {p l q : Addr} {c : Int} {o : HO} (P : Pen G p l c) (hp : q ≠ p) (hl : q ≠ l) : Pen (upd G q o) p l c := by
  obtain ⟨n, g, ns, h1, h2, h3⟩ := P
  refine ⟨n, g, ns, ?_, ?_, h3⟩
  · rw [upd_ne hp.symm]
    exact h1
  · rw [upd_ne hl.symm]
    exact h2
theorem Pen.same {G G' : Hp} {p l : Addr} {c : Int} (P : Pen G p l c) (k : Same G G') : Pen G' p l c := by
  obtain ⟨n, g, ns, h1, h2, h3⟩ := P
  exact ⟨n, g, ns, k _ _ h1, k _ _ h2, h3⟩
theorem Pen.ne {G : Hp} {p l q : Addr} {c : Int} (P : Pen G p l c) (h : G q = none) : q ≠ p := fun e => by
  obtain ⟨n, g, ns, h1, _⟩ := P
  rw [e, h1] at h
  cases h
theorem Pen.nel {G : Hp} {p l q : Addr} {c : Int} (P : Pen G p l c) (h : G q = none) : q ≠ l := fun e => by
  obtain ⟨n, g, ns, _, h1, _⟩ := P
  rw [e, h1] at h
  cases h
theorem Pen.new {G : Hp} {p l q : Addr} {c : Int} {o : HO} (P : Pen G p l c) (h : G q = none) : Pen (L2.upd G q o) p l c := P.upd (P.ne h) (P.nel h)
/-- a number below m is drawn -/
def spDraw : Sp := fun vs G Q _ => ∃ (p l : Addr) (c m : Int), vs = [.ref p, .int m] ∧ Pen G p l c ∧ c ≤ 1000000 ∧ 0 < m ∧ m ≤ 1000000 ∧ ∀ (d : Int) (G' : Hp), 0 ≤ d → d < m → Kp p G G' → Pen G' p l (c + 1) → Q (.int d) G'
/-- one of some things is drawn -/
def spPick (K : PySem.W.Frag) : Sp := fun vs G Q _ => ∃ (p l a : Addr) (c : Int) (xs : List V), vs = [.ref p, .ref a] ∧ Pen G p l c ∧ c ≤ 1000000 ∧ a ≠ p ∧ SqL K G a xs ∧ 0 < xs.length ∧ xs.length ≤ 1000000 ∧
  ∀ (x : V) (G' : Hp), x ∈ xs → Kp p G G' → Pen G' p l (c + 1) → Q x G'
/-- the pen is made -/
def spPen (K : PySem.W.Frag) : Sp := fun vs G Q _ => ∃ (a : Addr) (ns : List Int), vs = [.ref a] ∧ SqL K G a (ns.map V.int) ∧ ∀ (p l : Addr) (G' : Hp), G p = none → Same G G' → Pen G' p l 0 → Q (.ref p) G'
theorem Kp.seq {K : PySem.W.Frag} {p a : Addr} {G G' : Hp} {xs : List V} (k : Kp p G G') (n : a ≠ p) (h : SqL K G a xs) : SqL K G' a xs := by
  rcases h with (h | ⟨o, h⟩) | h
  · exact .inl (.inl (k _ _ n h))
  · exact .inl (.inr ⟨o, k _ _ n h⟩)
  · exact .inr h

/-! ### data -/
theorem dp_ints {K : PySem.W.Frag} {G : Hp} : ∀ ns : List Int, DpAll K G (ns.map V.int) (ns.map PyData.int)
  | [] => .nil
  | a :: r => .cons (.int a) (dp_ints r)
theorem dp_strs {K : PySem.W.Frag} {G : Hp} : ∀ xs : List Str, DpAll K G (xs.map V.str) (xs.map PyData.str)
  | [] => .nil
  | a :: r => .cons (.str a) (dp_strs r)
theorem lay_ints : ∀ ns : List Int, PyData.canLayAll0 (ns.map PyData.int) = true ∧ PyData.depthAll (ns.map PyData.int) = 0
  | [] => ⟨rfl, rfl⟩
  | a :: r => ⟨by show (true && PyData.canLayAll0 (r.map PyData.int)) = true; rw [(lay_ints r).1]; rfl, by show max 0 (PyData.depthAll (r.map PyData.int)) = 0; rw [(lay_ints r).2]; rfl⟩
/-- signs that are signs -/
def txt (x : Str) : Bool := x.cps.all (· < 0x110000)
theorem lay_strs : ∀ xs : List Str, (∀ x ∈ xs, txt x = true) → PyData.canLayAll0 (xs.map PyData.str) = true ∧ PyData.depthAll (xs.map PyData.str) = 0
  | [], _ => ⟨rfl, rfl⟩
  | a :: r, h => by
    have ih := lay_strs r fun x hx => h x (List.mem_cons_of_mem _ hx)
    have ha : PyData.canLay0 (.str a) = true := h a List.mem_cons_self
    constructor
    · show (PyData.canLay0 (.str a) && PyData.canLayAll0 (r.map PyData.str)) = true
      rw [ha, ih.1]
      rfl
    · show max 0 (PyData.depthAll (r.map PyData.str)) = 0
      rw [ih.2]
      rfl
theorem shaped_ints (ns : List Int) : SeqAt.shaped (.list (ns.map PyData.int)) = true := by
  show (PyData.canLayAll0 (ns.map PyData.int) && decide (PyData.depthAll (ns.map PyData.int) + 1 ≤ 64)) = true
  rw [(lay_ints ns).1, (lay_ints ns).2]
  rfl
theorem shaped_strsL (xs : List Str) (h : ∀ x ∈ xs, txt x = true) : SeqAt.shaped (.list (xs.map PyData.str)) = true := by
  show (PyData.canLayAll0 (xs.map PyData.str) && decide (PyData.depthAll (xs.map PyData.str) + 1 ≤ 64)) = true
  rw [(lay_strs xs h).1, (lay_strs xs h).2]
  rfl
theorem shaped_strsT (xs : List Str) (h : ∀ x ∈ xs, txt x = true) : SeqAt.shaped (.tuple (xs.map PyData.str)) = true := shaped_strsL xs h
theorem eqv_nil_r (ds : List PyData) : PyData.eqv (.list ds) (.list []) = decide (ds = []) := by
  cases ds with
  | nil => rfl
  | cons a r => rfl
theorem mod_lt (a b : Int) (h : 0 < b) : 0 ≤ a % b ∧ a % b < b := ⟨Int.emod_nonneg _ (by omega), Int.emod_lt_of_pos _ h⟩
theorem mod_at {xs : List V} (a : Int) (h : 0 < xs.length) : ∃ v, atI xs (a % (xs.length : Int)) = some v ∧ v ∈ xs := by
  have hm := mod_lt a (xs.length : Int) (by omega)
  have hl : (a % (xs.length : Int)).toNat < xs.length := by omega
  refine ⟨xs[(a % (xs.length : Int)).toNat], ?_, List.getElem_mem hl⟩
  have h2 : xs[(a % (xs.length : Int)).toNat]? = some xs[(a % (xs.length : Int)).toNat] := List.getElem?_eq_getElem hl
  have h3 := atI_nat h2
  rwa [Int.toNat_of_nonneg hm.1] at h3
theorem at_lt {xs : List V} (d : Int) (h0 : 0 ≤ d) (h : d < xs.length) : ∃ v, atI xs d = some v ∧ xs[d.toNat]? = some v ∧ v ∈ xs := by
  have hl : d.toNat < xs.length := by omega
  refine ⟨xs[d.toNat], ?_, List.getElem?_eq_getElem hl, List.getElem_mem hl⟩
  have h3 := atI_nat (List.getElem?_eq_getElem hl)
  rwa [Int.toNat_of_nonneg h0] at h3
theorem mem_ints {ns : List Int} {v : V} (h : v ∈ ns.map V.int) : ∃ i, v = V.int i := by
  obtain ⟨i, _, rfl⟩ := List.mem_map.mp h
  exact ⟨i, rfl⟩

theorem pow18 : (10 : Int) ^ (18 : Int).toNat = 1000000000000000000 := by decide +kernel
theorem draw_bound (x n A B b : Int) (hx : 0 ≤ x ∧ x < 2147483648) (hn : 0 ≤ n ∧ n ≤ 1000000) (hA : 0 ≤ A ∧ A ≤ 100000) (hB : 0 ≤ B ∧ B ≤ 100000) (hb : 0 ≤ b ∧ b ≤ 100000) : (x * (2 * n + b) + A * n * n + B).natAbs < 2 ^ 64 := by
  have h1 : x * (2 * n + b) ≤ 2147483648 * 2100000 := Int.mul_le_mul (by omega) (by omega) (by omega) (by omega)
  have h2 : 0 ≤ x * (2 * n + b) := Int.mul_nonneg hx.1 (by omega)
  have h3 : A * n ≤ 100000 * 1000000 := Int.mul_le_mul hA.2 hn.2 hn.1 (by omega)
  have h4 : 0 ≤ A * n := Int.mul_nonneg hA.1 hn.1
  have h5 : A * n * n ≤ 100000 * 1000000 * 1000000 := Int.mul_le_mul h3 hn.2 hn.1 (by omega)
  have h6 : 0 ≤ A * n * n := Int.mul_nonneg h4 hn.1
  omega
theorem great_nonneg (x : Int) (b : Bool) (h : 1000000000000000000 ≤ x) : 0 ≤ 2 * (x - 1000000000000000000) + (if b = true then (1 : Int) else 0) := by
  have hb : (0 : Int) ≤ (if b = true then (1 : Int) else 0) := by cases b <;> decide
  omega

/-! ### words -/
def ltr (c : Nat) : Bool := decide (97 ≤ c) && decide (c ≤ 122)
/-- 1 to m letters -/
def lettersS (x : Str) (m : Int) : Bool := (decide (1 ≤ (x.length : Int)) && decide ((x.length : Int) ≤ m)) && x.cps.toList.all ltr
def lettersV (v : V) (m : Int) : Bool := match v with
  | .str x => lettersS x m
  | _ => false
def wordS (x : Str) : Bool := lettersS x 10
def wordV (v : V) : Bool := lettersV v 10
/-- a value whose type is known: a text of a small size, or something else -/
def Known (K : PySem.W.Frag) (G : Hp) (v : V) : Prop := (∃ x, v = .str x ∧ x.length ≤ 1000000) ∨ ((∀ x, v ≠ .str x) ∧ ∃ t, TyX K G v t ∧ PySem.W.kitOne K t (.type "str") = some false)
def spLetters (K : PySem.W.Frag) : Sp := fun vs G Q _ => ∃ (v : V) (m : Int), vs = [v, .int m] ∧ Known K G v ∧ ∀ G', Same G G' → Q (.bl (lettersV v m)) G'
def spIsWord (K : PySem.W.Frag) : Sp := fun vs G Q _ => ∃ (v : V), vs = [v] ∧ Known K G v ∧ ∀ G', Same G G' → Q (.bl (wordV v)) G'
theorem lettersV_other {v : V} {m : Int} (h : ∀ x, v ≠ .str x) : lettersV v m = false := by
  cases v with
  | str x => exact absurd rfl (h x)
  | _ => rfl
theorem big_line {n : Nat} (h : n ≤ 1000000) : n ≤ sizeLine := Nat.le_trans h (by decide)
theorem big_line' {n : Nat} (h : n ≤ 1000000) : n < sizeLine := Nat.lt_of_le_of_lt h (by decide)
theorem Same.fresh {q : Addr} {G G' : Hp} {o : HO} (k : Same G G') (h : G q = none) : Same G (upd G' q o) := fun b u e => by
  rw [upd_ne (ne_of_none e h)]
  exact k b u e
theorem take_get {α : Type} {l : List α} {i : Nat} {a : α} (h : l[i]? = some a) : l.take (i + 1) = l.take i ++ [a] := by
  obtain ⟨h1, h2⟩ := List.getElem?_eq_some_iff.mp h
  rw [List.take_succ, h]
  rfl
end Qh
set_option Elab.async false
set_option linter.all false
set_option maxRecDepth 100000
set_option maxHeartbeats 4000000
namespace K03
open PySem PySem.Spec PyProof.Rows L2 Qh
def top (i : Nat) : Stmt := PySem.Challenge.pw_quotehome_k03_stop_and_drop.main.body.getD i (.Pass ⟨0, 0, 0, 0⟩)
abbrev sPen : Stmt := top 16
abbrev sDraw : Stmt := top 17
abbrev sPick : Stmt := top 18
section
variable {P : Program} {w : World} {K : PySem.W.Frag} {mg : Str → Option Value} {base : Heap}
theorem scPen : FnScope ["_law_script"] ["_law_script"] (defScope sPen) := ⟨rfl, rfl, rfl, by decide +kernel, rfl, by decide +kernel, by decide +kernel⟩
theorem ok_pen (D : DefIn K mg "_law_pen" sPen) (B : Blt mg) : Ok P w K mg base "_law_pen" (defArgs sPen) ["_law_script"] 1 (spPen K) := by
  refine D.ok scPen (fun vs G Q E h => ?_) (fun _ _ _ _ _ _ us hl => match us, hl with | [_], _ => rfl) (fun f cdv A out t G vs Q E hr h => ?_)
  · obtain ⟨a, ns, rfl, _⟩ := h
    rfl
  · obtain ⟨a, ns, rfl, hS, k⟩ := h
    refine ⟨_, pss_one (ps_ret (pe_lst (pa_cons (pe_callTy call_list_of (by rfl) B.n_list bt_list (pa_cons (pe_slice sl_list (pv 0) po_none (po_some pe_int)) pa_nil)) (pa_cons pe_int (pa_cons pe_int pa_nil))))), ?_⟩
    refine ⟨_, rfl, 63, rfl, a, ns.map V.int, rfl, hS, fun q hq => ?_⟩
    refine ⟨q, _, rfl, .inl (SqL.of upd_same), fun l hl => ?_⟩
    refine ⟨by show 3 ≤ sizeLine; decide, fun p hp => ?_⟩
    have lq : l ≠ q := fun e => by rw [e, upd_same] at hl; cases hl
    have pl : p ≠ l := fun e => by rw [e, upd_same] at hp; cases hp
    have pq : p ≠ q := fun e => by rw [e, upd_ne lq.symm, upd_same] at hp; cases hp
    have nl : G l = none := by rw [upd_ne lq] at hl; exact hl
    have np : G p = none := by rw [upd_ne pl, upd_ne pq] at hp; exact hp
    have hcut : cutV (ns.map V.int) none (some 63) = (ns.take 63).map V.int := by
      unfold cutV
      rw [HT.sIx_none, show (some (63 : Int)) = some ((63 : Nat) : Int) from rfl, HT.sIx_nat, List.drop_zero, Nat.sub_zero, List.map_take]
      by_cases h : 63 ≤ (ns.map V.int).length
      · rw [Nat.min_eq_left h]
      · rw [Nat.min_eq_right (by omega), List.take_of_length_le (Nat.le_refl _), List.take_of_length_le (by omega)]
    refine k p l _ np (fun b o e => ?_) ⟨0, 0, ns.take 63, upd_same, ?_, pl.symm, Int.le_refl _, Int.le_refl _, Int.le_refl _⟩
    · rw [upd_ne (ne_of_none e np), upd_ne (ne_of_none e nl), upd_ne (ne_of_none e hq)]
      exact e
    · rw [upd_ne pl.symm, upd_same, hcut]
theorem scDraw : FnScope ["_law_pen_here", "_law_many", "_law_digit", "_law_at", "_law_cell", "_law_great", "_law_mixed"] ["_law_pen_here", "_law_many"] (defScope sDraw) := ⟨rfl, rfl, rfl, by decide +kernel, rfl, by decide +kernel, by decide +kernel⟩

theorem ok_draw (D : DefIn K mg "_law_draw" sDraw) (B : Blt mg) : Ok P w K mg base "_law_draw" (defArgs sDraw) ["_law_pen_here", "_law_many"] 1 spDraw := by
  refine D.ok scDraw (fun vs G Q E h => ?_) (fun _ _ _ _ _ _ us hl => match us, hl with | [_, _], _ => rfl) (fun f cdv A out t G vs Q E hr h => ?_)
  · obtain ⟨p, l, c, m, rfl, _⟩ := h
    rfl
  · obtain ⟨p, l, c, m, rfl, ⟨n, g, ns, hp, hl, lp, n0, nc, g0⟩, hc, m0, mm, k⟩ := h
    have hu64 := hr.units
    refine ⟨_, (pss_cons (ps_if (pt_cmpR op_gt (pe_ix ix_list (pv 0) pe_int (fun _ _ => rfl)) pe_int (nomark _)) (pss_cons (ps_set (i := 2) scDraw.nd rfl (by first | exact Or.inl rfl | exact Or.inr rfl) (pe_op op_mod (pe_callTy call_int1 (by rfl) B.n_int bt_int (pa_cons (pe_ix ix_list (pv 0) pe_int (fun _ _ => rfl)) pa_nil)) (pv 1)))
    (pss_cons (ps_asg (pe_op op_fdiv (pe_callTy call_int1 (by rfl) B.n_int bt_int (pa_cons (pe_ix ix_list (pv 0) pe_int (fun _ _ => rfl)) pa_nil)) (pv 1)) (pg_sub (pv 0) pe_int set_list))
    (pss_one (ps_ret (pv 2))))) pss_nil)
    (pss_cons (ps_set (i := 3) scDraw.nd rfl (by first | exact Or.inl rfl | exact Or.inr rfl) (pe_ix ix_list (pv 0) pe_int (fun _ _ => rfl)))
    (pss_cons (ps_asg (pe_op op_add (pv 3) pe_int) (pg_sub (pv 0) pe_int set_list))
    (pss_cons (ps_set (i := 4) scDraw.nd rfl (by first | exact Or.inl rfl | exact Or.inr rfl) (pe_op op_add (pe_op op_mul pe_int (pv 3)) pe_int))
    (pss_cons (ps_if (pt_cmpR (op_neD hu64) (pe_ix ix_list (pv 0) pe_int (fun _ _ => rfl)) (pe_lst pa_nil) (nomark _)) (pss_one (ps_set (i := 4) scDraw.nd rfl (by first | exact Or.inl rfl | exact Or.inr rfl) (pe_ix ix_list (pe_ix ix_list (pv 0) pe_int (fun _ _ => rfl)) (pe_op op_mod (pe_callTy call_int1 (by rfl) B.n_int bt_int (pa_cons (pv 3) pa_nil)) (pe_callB call_len (by rfl) B.n_len bt_len (pa_cons (pe_ix ix_list (pv 0) pe_int (fun _ _ => rfl)) pa_nil))) (fun _ _ => rfl)))) pss_nil)
    (pss_cons (ps_if (PW.pt (pw_and (pt_cmpR op_lt (pv 3) (pe_callB call_len (by rfl) B.n_len bt_len (pa_cons (pe_ix ix_list (pv 0) pe_int (fun _ _ => rfl)) pa_nil)) (nomark _)) (pw_and1 (pt_cmpR op_ge (pe_callB call_abs (by rfl) B.n_abs bt_abs (pa_cons (pv 4) pa_nil)) (pe_op op_pow pe_int pe_int) (nomark _))))) (pss_cons (ps_set (i := 5) scDraw.nd rfl (by first | exact Or.inl rfl | exact Or.inr rfl) (pe_op op_add (pe_op op_mul pe_int (pe_op op_sub (pe_callB call_abs (by rfl) B.n_abs bt_abs (pa_cons (pv 4) pa_nil)) (pe_op op_pow pe_int pe_int))) (pe_callTy call_int1 (by rfl) B.n_int bt_int (pa_cons (pe_cmpR op_lt (pv 4) pe_int (nomark _)) pa_nil))))
    (pss_cons (ps_asg (pe_op op_fdiv (pe_callTy call_int1 (by rfl) B.n_int bt_int (pa_cons (pv 5) pa_nil)) (pv 1)) (pg_sub (pv 0) pe_int set_list))
    (pss_one (ps_ret (pe_op op_mod (pe_callTy call_int1 (by rfl) B.n_int bt_int (pa_cons (pv 5) pa_nil)) (pv 1)))))) pss_nil)
    (pss_cons (ps_set (i := 6) scDraw.nd rfl (by first | exact Or.inl rfl | exact Or.inr rfl) (pe_op op_mod (pe_callTy call_int1 (by rfl) B.n_int bt_int (pa_cons (pe_op op_pow (pe_op op_add (pe_op op_add (pe_op op_mod (pe_callTy call_int1 (by rfl) B.n_int bt_int (pa_cons (pv 4) pa_nil)) pe_int) (pe_op op_mul pe_int (pv 3))) pe_int) pe_int) pa_nil)) pe_int))
    (pss_cons (ps_set (i := 6) scDraw.nd rfl (by first | exact Or.inl rfl | exact Or.inr rfl) (pe_op op_mod (pe_callTy call_int1 (by rfl) B.n_int bt_int (pa_cons (pe_op op_pow (pe_op op_add (pe_op op_add (pe_op op_mul (pv 6) (pe_op op_add (pe_op op_mul pe_int (pv 3)) pe_int)) (pe_op op_mul (pe_op op_mul pe_int (pv 3)) (pv 3))) pe_int) pe_int) pa_nil)) pe_int))
    (pss_one (ps_ret (pe_op op_mod (pe_callTy call_int1 (by rfl) B.n_int bt_int (pa_cons (pe_op op_fdiv (pv 6) pe_int) pa_nil)) (pv 1)))))))))))), ?_⟩
    refine ⟨_, rfl, p, _, _, _, rfl, rfl, SqL.of hp, rfl, _, _, rfl, rfl, _, rfl, ?_⟩
    refine ite2 (fun hg => ?_) (fun hg => ?_)
    · have hg := of_decide_eq_true hg
      refine ⟨_, rfl, p, _, _, _, rfl, rfl, SqL.of hp, rfl, .inl ⟨_, rfl, _, rfl, _, _, rfl, rfl, m0, ?_⟩⟩
      refine ⟨_, rfl, p, _, _, _, rfl, rfl, SqL.of hp, rfl, .inl ⟨_, rfl, _, rfl, _, _, rfl, rfl, ⟨m0, by omega⟩, _, rfl, p, _, _, 2, rfl, rfl, hp, rfl, ?_⟩⟩
      refine ⟨_, rfl, ?_⟩
      refine k (g % m) _ (mod_lt g m m0).1 (mod_lt g m m0).2 Kp.self ⟨n, g / m, ns, upd_same, ?_, lp, n0, by omega, Int.ediv_nonneg g0 (by omega)⟩
      rw [upd_ne lp]
      exact hl
    · -- at = pen[1]; pen[1] = at + 1; cell = ..
      refine ⟨_, rfl, p, _, _, _, rfl, rfl, SqL.of hp, rfl, ?_⟩
      refine ⟨_, rfl, _, _, rfl, rfl, _, rfl, p, _, _, 1, rfl, rfl, hp, rfl, ?_⟩
      have hp1 : (upd G p (.lst [.ref l, .int (n + 1), .int g])) p = some (.lst [.ref l, .int (n + 1), .int g]) := upd_same
      have hl1 : (upd G p (.lst [.ref l, .int (n + 1), .int g])) l = some (.lst (ns.map V.int)) := by
        rw [upd_ne lp]
        exact hl
      refine ⟨_, rfl, _, _, rfl, rfl, .inl ⟨by decide, by decide⟩, _, _, rfl, rfl, ?_⟩
      -- if pen[0] != []
      refine ⟨_, rfl, p, _, _, _, rfl, rfl, SqL.of hp1, rfl, by show 0 ≤ sizeLine; decide, fun q hq => ?_⟩
      have lq : l ≠ q := ne_of_none hl1 hq
      have pq : p ≠ q := ne_of_none hp1 hq
      have hl2 : (upd (upd G p (.lst [.ref l, .int (n + 1), .int g])) q (.lst [])) l = some (.lst (ns.map V.int)) := by
        rw [upd_ne lq]
        exact hl1
      have hp2 : (upd (upd G p (.lst [.ref l, .int (n + 1), .int g])) q (.lst [])) p = some (.lst [.ref l, .int (n + 1), .int g]) := by
        rw [upd_ne pq]
        exact hp1
      have nq : G q = none := by
        rw [upd_ne pq.symm] at hq
        exact hq
      have kp2 : Kp p G (upd (upd G p (.lst [.ref l, .int (n + 1), .int g])) q (.lst [])) := Kp.fresh Kp.self nq
      have hq2 : (upd (upd G p (.lst [.ref l, .int (n + 1), .int g])) q (.lst [])) q = some (.lst []) := upd_same
      refine ⟨.list (ns.map PyData.int), .list [], .lst (SqL.of hl2) (dp_ints ns), .lst (SqL.of hq2) .nil, shaped_ints ns, rfl, _, rfl, ?_⟩
      rw [eqv_nil_r]
      refine ite2 (fun hne => ?yes) (fun hne => ?no)
      case' yes =>
        have hz : 0 < (ns.map V.int).length := by
          cases ns with
          | nil => exact absurd hne (by decide)
          | cons a r => exact Nat.succ_pos _
        obtain ⟨v, hv, hm⟩ := mod_at (xs := ns.map V.int) n hz
        obtain ⟨cell, rfl⟩ := mem_ints hm
        refine ⟨_, rfl, p, _, _, _, rfl, rfl, SqL.of hp2, rfl, _, rfl, .inl ⟨_, rfl, ?_⟩⟩
        refine ⟨_, rfl, p, _, _, _, rfl, rfl, SqL.of hp2, rfl, .ref l, _, rfl, .inl ⟨_, SqL.of hl2, rfl⟩, _, _, rfl, rfl, by omega, l, _, _, _, rfl, rfl, SqL.of hl2, hv, ?_⟩
      all_goals
        refine ⟨_, rfl, _, rfl, p, _, _, _, rfl, rfl, SqL.of hp2, rfl, .ref l, _, rfl, .inl ⟨_, SqL.of hl2, rfl⟩, _, _, rfl, rfl, _, rfl, ?_⟩
        refine ite2 (fun _ => ?_) (fun _ => ?_)
        case' _ =>
          refine ⟨_, rfl, _, rfl, _, _, rfl, rfl, ⟨by decide, by decide, by decide⟩, _, _, rfl, rfl, _, rfl, ?_⟩
          rw [pow18]
          refine ite2 (fun hbig => ?_) (fun hbig => ?_)
          case _ =>
            have hbig := of_decide_eq_true hbig
            refine ⟨_, rfl, _, rfl, _, _, rfl, rfl, ⟨by decide, by decide, by decide⟩, _, _, rfl, rfl, _, _, rfl, rfl, .inl ⟨by decide, by decide⟩, _, rfl, _, _, rfl, rfl, .inr ⟨_, rfl, _, _, rfl, rfl, ?_⟩⟩
            refine ⟨_, rfl, .inl ⟨_, rfl, _, rfl, _, _, rfl, rfl, ⟨m0, by omega⟩, _, rfl, p, _, _, 2, rfl, rfl, hp2, rfl, ?_⟩⟩
            refine ⟨_, rfl, .inl ⟨_, rfl, _, rfl, _, _, rfl, rfl, m0, ?_⟩⟩
            refine k _ _ (mod_lt _ m m0).1 (mod_lt _ m m0).2 (Kp.trans kp2 Kp.self) ⟨n + 1, _, ns, upd_same, ?_, lp, by omega, by omega, Int.ediv_nonneg ?_ (by omega)⟩
            · rw [upd_ne lp]
              exact hl2
            · rw [pow18]
              exact great_nonneg _ _ hbig
        all_goals
          refine ⟨_, rfl, .inl ⟨_, rfl, _, _, rfl, rfl, by show (0 : Int) < _; decide, _, rfl, _, _, rfl, rfl, .inl ⟨by decide, by decide⟩, _, _, rfl, rfl, _, _, rfl, rfl, _, _, rfl, rfl, ⟨by decide, by decide, ?_⟩, .inl ⟨_, rfl, _, _, rfl, rfl, by show (0 : Int) < _; decide, ?_⟩⟩⟩
          · omega
          refine ⟨_, rfl, _, rfl, _, _, rfl, rfl, .inl ⟨by decide, by decide⟩, _, _, rfl, rfl, _, _, rfl, rfl, .inr ⟨by omega, by omega⟩, ?_⟩
          refine ⟨_, rfl, _, _, rfl, rfl, .inl ⟨by decide, by decide⟩, _, rfl, _, _, rfl, rfl, .inr ⟨by omega, by omega⟩, _, _, rfl, rfl, _, _, rfl, rfl, _, _, rfl, rfl, ⟨by decide, by decide, ?_⟩, .inl ⟨_, rfl, _, _, rfl, rfl, by show (0 : Int) < _; decide, ?_⟩⟩
          · exact draw_bound _ _ _ _ _ ⟨(mod_lt _ _ (by decide)).1, Int.lt_trans (mod_lt _ _ (by decide)).2 (by decide)⟩ ⟨n0, by omega⟩ (by decide) (by decide) (by decide)
          refine ⟨_, rfl, _, _, rfl, rfl, ⟨by decide, by decide⟩, .inl ⟨_, rfl, _, rfl, _, _, rfl, rfl, m0, ?_⟩⟩
          exact k _ _ (mod_lt _ m m0).1 (mod_lt _ m m0).2 kp2 ⟨n + 1, g, ns, hp2, hl2, lp, by omega, by omega, g0⟩
theorem scPick : FnScope ["_law_pen_here", "_law_some"] ["_law_pen_here", "_law_some"] (defScope sPick) := ⟨rfl, rfl, rfl, by decide +kernel, rfl, by decide +kernel, by decide +kernel⟩
theorem ok_pick (D : DefIn K mg "_law_pick" sPick) (B : Blt mg) (F__law_draw : Ok P w K mg base "_law_draw" (defArgs sDraw) ["_law_pen_here", "_law_many"] 1 spDraw) : Ok P w K mg base "_law_pick" (defArgs sPick) ["_law_pen_here", "_law_some"] 2 (spPick K) := by
  refine D.ok scPick (fun vs G Q E h => ?_) (fun _ _ _ _ _ _ us hl => match us, hl with | [_, _], _ => rfl) (fun f cdv A out t G vs Q E hr h => ?_)
  · obtain ⟨p, l, a, c, xs, rfl, _⟩ := h
    rfl
  · obtain ⟨p, l, a, c, xs, rfl, hP, hc, ha, hS, h0, h1, k⟩ := h
    refine ⟨_, pss_one (ps_ret (pe_ix ix_list (pv 1) (pe_own F__law_draw (hr.mono (by decide)) takes0 (pa_cons (pv 0) (pa_cons (pe_callB call_len (by rfl) B.n_len bt_len (pa_cons (pv 1) pa_nil)) pa_nil))) (fun _ _ => rfl))), ?_⟩
    refine ⟨_, rfl, _, rfl, _, rfl, .ref a, _, rfl, .inl ⟨xs, hS, rfl⟩, p, l, c, (xs.length : Int), rfl, hP, hc, by omega, by omega, fun d G' d0 dm kp P' => ?_⟩
    obtain ⟨v, hv, _, hm⟩ := at_lt d d0 dm
    exact ⟨a, xs, d, v, rfl, rfl, kp.seq ha hS, hv, k v G' hm kp P'⟩
end
end K03
set_option Elab.async false
set_option linter.all false
set_option maxRecDepth 100000
set_option maxHeartbeats 4000000
/-! Texts of letters by isascii, isalpha, islower. -/
namespace Qh
open PySem PySem.Spec PyProof.Rows L2
theorem uni128 : ∀ c : Fin 128, (Unicode.isAlpha c.val && !(Unicode.isUpper c.val || Unicode.isTitle c.val)) = ltr c.val ∧ (ltr c.val = true → Unicode.isLower c.val = true) := by decide +kernel
theorem uni_all (l : List Nat) (h : l.all (fun c => decide (c < 128)) = true) : (l.all Unicode.isAlpha && !l.any fun c => Unicode.isUpper c || Unicode.isTitle c) = l.all ltr := by
  induction l with
  | nil => rfl
  | cons a r ih =>
    rw [List.all_cons, Bool.and_eq_true] at h
    have ha := of_decide_eq_true h.1
    have h1 := (uni128 ⟨a, ha⟩).1
    have ih := ih h.2
    simp only [List.all_cons, List.any_cons, Bool.not_or]
    rw [← ih, ← h1]
    simp only [Bool.not_or]
    cases Unicode.isAlpha a <;> cases Unicode.isUpper a <;> cases Unicode.isTitle a <;> simp
theorem ltr_ascii (c : Nat) (h : ltr c = true) : c < 128 := by
  unfold ltr at h
  simp at h
  omega
theorem letters_now (x : Str) : (if Txt.isascii x = true then (if Txt.isalpha x = true then Txt.islower x else false) else false) = (decide (1 ≤ (x.length : Int)) && x.cps.toList.all ltr) := by
  have e1 : Txt.isascii x = x.cps.toList.all (fun c => decide (c < 128)) := by
    unfold Txt.isascii
    rw [← Array.all_toList]
  have e2 : Txt.isalpha x = (decide (x.length > 0) && x.cps.toList.all Unicode.isAlpha) := by
    unfold Txt.isalpha
    rw [← Array.all_toList]
  have e3 : Txt.islower x = (x.cps.toList.any Unicode.isLower && !x.cps.toList.any fun c => Unicode.isUpper c || Unicode.isTitle c) := by
    unfold Txt.islower
    rw [← Array.any_toList, ← Array.any_toList]
  have el : x.length = x.cps.toList.length := by simp [Str.length]
  rw [e1, e2, e3, el]
  generalize x.cps.toList = l
  cases ha : l.all (fun c => decide (c < 128)) with
  | false =>
    have : l.all ltr = false := by
      cases hl : l.all ltr with
      | false => rfl
      | true =>
        rw [List.all_eq_true] at hl
        rw [← ha]
        symm
        rw [List.all_eq_true]
        exact fun c hc => decide_eq_true (ltr_ascii c (hl c hc))
    rw [this]
    simp
  | true =>
    have h := uni_all l ha
    cases l with
    | nil => rfl
    | cons a r =>
      have hlow : (a :: r).all ltr = true → (a :: r).any Unicode.isLower = true := fun hh => by
        rw [List.all_eq_true] at hh
        rw [List.any_eq_true]
        have h1 := hh a (List.mem_cons_self)
        exact ⟨a, List.mem_cons_self, (uni128 ⟨a, ltr_ascii a h1⟩).2 h1⟩
      rw [← h] at hlow ⊢
      rw [if_pos rfl]
      have p1 : decide ((a :: r).length > 0) = true := decide_eq_true (Nat.succ_pos _)
      have p2 : decide (1 ≤ (((a :: r).length : Nat) : Int)) = true := by
        refine decide_eq_true ?_
        have := Nat.succ_pos r.length
        rw [List.length_cons]
        omega
      rw [p1, p2]
      revert hlow
      generalize (a :: r).all Unicode.isAlpha = p
      generalize (a :: r).any Unicode.isLower = q
      generalize ((a :: r).any fun c => Unicode.isUpper c || Unicode.isTitle c) = s
      intro hlow
      cases p <;> cases q <;> cases s <;> simp at hlow ⊢
end Qh
set_option Elab.async false
set_option linter.all false
set_option maxRecDepth 100000
set_option maxHeartbeats 4000000
namespace K03
open PySem PySem.Spec PyProof.Rows L2 Qh
abbrev sLetters : Stmt := top 6
abbrev sIsWord : Stmt := top 7
section
variable {P : Program} {w : World} {K : PySem.W.Frag} {mg : Str → Option Value} {base : Heap}
theorem scLetters : FnScope ["value", "most"] ["value", "most"] (defScope sLetters) := ⟨rfl, rfl, rfl, by decide +kernel, rfl, by decide +kernel, by decide +kernel⟩
theorem ok_letters (D : DefIn K mg "is_letters" sLetters) (B : Blt mg) : Ok P w K mg base "is_letters" (defArgs sLetters) ["value", "most"] 1 (spLetters K) := by
  refine D.ok scLetters (fun vs G Q E h => ?_) (fun _ _ _ _ _ _ us hl => match us, hl with | [_, _], _ => rfl) (fun f cdv A out t G vs Q E hr h => ?_)
  · obtain ⟨v, m, rfl, _⟩ := h
    rfl
  · obtain ⟨v, m, rfl, hv, k⟩ := h
    refine ⟨_, (pss_cons (ps_if (PW.pt (pw_or (pt_not (pt_val (pe_callB call_isi (by rfl) B.n_isinstance bt_isinstance (pa_cons (pv 0) (pa_cons (pe_bltn (v := .ty "str") (by rfl) B.n_str bt_str rfl) pa_nil))))) (pw_or1 (pt_cmpR op_gt (pe_callB call_len (by rfl) B.n_len bt_len (pa_cons (pv 0) pa_nil)) (pv 1) (nomark _))))) (pss_one (ps_ret pe_bl)) pss_nil)
      (pss_one (ps_ret (pe_and (pe_bm0 PySem.F.plainAttrs_str PySem.F.slot_str_isascii PySem.F.type_str_isascii mt_isascii (pv 0)) (pe_and (pe_bm0 PySem.F.plainAttrs_str PySem.F.slot_str_isalpha PySem.F.type_str_isalpha mt_isalpha (pv 0)) (pe_one (pe_bm0 PySem.F.plainAttrs_str PySem.F.slot_str_islower PySem.F.type_str_islower mt_islower (pv 0)))))))), ?_⟩
    rcases hv with ⟨x, rfl, hx⟩ | ⟨hno, ty, hty, hk⟩
    · refine ⟨_, rfl, _, _, _, _, _, rfl, .ty _, .base (.str x), kit_ty (r := true) (by decide +kernel), _, rfl, ?_⟩
      refine iteF ?_
      refine ⟨_, rfl, .str x, x.length, rfl, ⟨big_line hx, rfl⟩, _, rfl, _, _, rfl, rfl, _, rfl, ?_⟩
      have hk := k G (Same.refl G)
      have e : lettersV (.str x) m = (decide ((x.length : Int) ≤ m) && (decide (1 ≤ (x.length : Int)) && x.cps.toList.all ltr)) := by
        show lettersS x m = _
        unfold lettersS
        cases decide (1 ≤ (x.length : Int)) <;> cases decide ((x.length : Int) ≤ m) <;> rfl
      rw [e, ← letters_now] at hk
      refine ite2 (fun h1 => ?_) (fun h1 => ?_)
      · have h1 : decide ((x.length : Int) ≤ m) = false := by
          have := of_decide_eq_true h1
          exact decide_eq_false (by omega)
        rw [h1] at hk
        exact hk
      · have h1 : decide ((x.length : Int) ≤ m) = true := by
          have : ¬ ((x.length : Int) > m) := fun z => h1 (decide_eq_true z)
          exact decide_eq_true (by omega)
        rw [h1, Bool.true_and] at hk
        refine ⟨_, rfl, rfl, x, rfl, rfl, trivial, _, rfl, ?_⟩
        refine ite2 (fun h2 => ?_) (fun h2 => ?_)
        · rw [if_pos h2] at hk
          refine ⟨_, rfl, rfl, x, rfl, rfl, trivial, _, rfl, ?_⟩
          refine ite2 (fun h3 => ?_) (fun h3 => ?_)
          · rw [if_pos h3] at hk
            exact ⟨_, rfl, rfl, x, rfl, rfl, trivial, hk⟩
          · rw [if_neg h3] at hk
            exact hk
        · rw [if_neg h2] at hk
          exact hk
    · refine ⟨_, rfl, _, _, _, _, _, rfl, .ty _, hty, hk, _, rfl, ?_⟩
      refine iteT ?_
      have h := k G (Same.refl G)
      rw [lettersV_other hno] at h
      exact h
theorem scIsWord : FnScope ["value"] ["value"] (defScope sIsWord) := ⟨rfl, rfl, rfl, by decide +kernel, rfl, by decide +kernel, by decide +kernel⟩
theorem ok_isWord (D : DefIn K mg "is_word" sIsWord) (hM : ∃ t, mg "MOST_LETTERS" = some (.int 10 t)) (F_is_letters : Ok P w K mg base "is_letters" (defArgs sLetters) ["value", "most"] 1 (spLetters K)) : Ok P w K mg base "is_word" (defArgs sIsWord) ["value"] 2 (spIsWord K) := by
  refine D.ok scIsWord (fun vs G Q E h => ?_) (fun _ _ _ _ _ _ us hl => match us, hl with | [_], _ => rfl) (fun f cdv A out t G vs Q E hr h => ?_)
  · obtain ⟨v, rfl, _⟩ := h
    rfl
  · obtain ⟨v, rfl, hv, k⟩ := h
    obtain ⟨tk, hM⟩ := hM
    refine ⟨_, pss_one (ps_ret (pe_own F_is_letters (hr.mono (by decide)) takes0 (pa_cons (pv 0) (pa_cons (pe_glob (v := .int 10) rfl hM ⟨_, rfl⟩) pa_nil)))), ?_⟩
    exact ⟨_, rfl, v, 10, rfl, hv, k⟩
end
end K03
set_option Elab.async false
set_option linter.all false
set_option maxRecDepth 100000
set_option maxHeartbeats 4000000
/-! Own errors with one field or more, made by their own __init__. -/
namespace Qh
open PySem PySem.Spec PyProof.Rows L2 TL
/-- the class at C as the top has left it -/
structure ErrC (K : PySem.W.Frag) (mg : Str → Option Value) (x : Str) (C : Addr) : Prop where
  g : mg x = some (.ref C)
  o : OexC K C
  xf : XfC K C
  ec : ExcC K C
/-- C.__init__(self, f): self.f = f -/
def spErr1 (C : Addr) (f : Str) : Sp := fun vs G Q _ => ∃ (a : Addr) (v : V), vs = [.ref a, v] ∧ G a = some (exo a C none) ∧ ∀ d, G d = none → d ≠ a → Q .non (upd (upd G d (exd d [(f, v)])) a (exo a C (some d)))
structure Err1 (P : Program) (w : World) (K : PySem.W.Frag) (mg : Str → Option Value) (base : Heap) (x f : Str) (C : Addr) : Prop where
  c : ErrC K mg x C
  no : PySem.W.findIn K (.ref C) f = some none
  init : ∃ (fI : Addr) (fd : FuncData), PySem.W.findIn K (.ref C) "__init__" = some (some (.ref fI)) ∧ PySem.W.typeIn K (.ref fI) = some (.type "function") ∧ Binds K fd ["self", f] [] ∧
    FnOk P w K mg base (L2.CX P w) 1 fI fd ["self", f] (spErr1 C f)
theorem err_heap {G : Hp} {a d C : Addr} {u : HO} {fs : List (Str × V)} (ha : G a = none) (hd : d ≠ a) :
    upd (del (upd (upd (upd G a (exo a C none)) d (exd d fs)) a (exo a C (some d))) a) d u = upd G d u := by
  funext b
  by_cases hb : b = d
  · subst hb
    rw [upd_same, upd_same]
  · rw [upd_ne hb, upd_ne hb]
    by_cases hba : b = a
    · subst hba
      rw [del_same, ha]
    · rw [del_ne hba, upd_ne hba, upd_ne hb, upd_ne hba]
section
variable {X : Cx} {x f : Str} {C : Addr} {e : Expr} {te : TE} {p pos : Pos}
end
/-! ### parts between blanks -/
def blank : Str := Str.ofString " "
def partsOf (x : Str) : List Str := Txt.split x blank
/-- what words_of tells of a value: the words, or the index of the first part that is none -/
def heardS (x : Str) : List Str ⊕ Nat := if x.length = 0 then .inl [] else match (partsOf x).findIdx? (fun p => !wordS p) with
  | none => .inl (partsOf x)
  | some i => .inr i
def heardV (v : V) : List Str ⊕ Nat := match v with
  | .str x => heardS x
  | _ => .inr 0
theorem findIdx_some {α : Type} {p : α → Bool} : ∀ {xs : List α} {i : Nat} {a : α}, xs[i]? = some a → p a = true → (∀ (j : Nat) (b : α), j < i → xs[j]? = some b → p b = false) → xs.findIdx? p = some i
  | [], i, a, h, _, _ => by simp at h
  | x :: r, 0, a, h, ha, _ => by
    have e : x = a := by simpa using h
    rw [List.findIdx?_cons, e, ha]
    rfl
  | x :: r, i + 1, a, h, ha, hb => by
    have h0 : p x = false := hb 0 x (by omega) (by simp)
    have ih := findIdx_some (p := p) (xs := r) (i := i) (a := a) (by simpa using h) ha fun j b hj hjb => hb (j + 1) b (by omega) (by simpa using hjb)
    rw [List.findIdx?_cons, h0, ih]
    rfl
theorem findIdx_none {α : Type} {p : α → Bool} : ∀ {xs : List α}, (∀ (j : Nat) (b : α), xs[j]? = some b → p b = false) → xs.findIdx? p = none
  | [], _ => rfl
  | x :: r, hb => by
    have h0 : p x = false := hb 0 x (by simp)
    have ih := findIdx_none (p := p) (xs := r) fun j b hjb => hb (j + 1) b (by simpa using hjb)
    rw [List.findIdx?_cons, h0, ih]
    rfl
theorem map_at {α β : Type} {f : α → β} {l : List α} {i : Nat} {b : β} (h : (l.map f)[i]? = some b) : ∃ a, l[i]? = some a ∧ b = f a := by
  rw [List.getElem?_map] at h
  cases e : l[i]? with
  | none => rw [e] at h; cases h
  | some a => rw [e] at h; exact ⟨a, rfl, (Option.some.inj h).symm⟩

/-! ### texts put together -/
def nothing : Str := Str.ofString ""
section
variable {X : Cx}
end
/-- what is heard, as data -/
def heardD (v : V) : PyData := match heardV v with
  | .inl ps => .tuple [.str (Str.ofString "told"), .tuple (ps.map PyData.str)]
  | .inr i => .tuple [.str (Str.ofString "index"), .int (i : Int)]
def spHeard (K : PySem.W.Frag) : Sp := fun vs G Q _ => ∃ (v : V), vs = [v] ∧ Known K G v ∧ ∀ (q : Addr) (G' : Hp), Same G G' → Dp K G' (.ref q) (heardD v) → Q (.ref q) G'

def told (ps : List Str) : PyData := .tuple [.str (Str.ofString "told"), .tuple (ps.map PyData.str)]
def atIx (i : Nat) : PyData := .tuple [.str (Str.ofString "index"), .int (i : Int)]
/-- what is due of parts -/
def dueD (ys : List Str) : PyData := if ys = [] ∨ ys = [nothing] then told [] else match ys.findIdx? (fun p => !wordS p) with
  | none => told ys
  | some i => atIx i
end Qh
set_option Elab.async false
set_option linter.all false
set_option maxRecDepth 100000
set_option maxHeartbeats 4000000
/-! New objects, told by what stands there and what stays; values that are no texts; repr of texts. -/
namespace Qh
open PySem PySem.Spec PyProof.Rows L2 TL
section
variable {X : Cx} {es : List Expr} {t : TA} {pos : Pos}
def nTup (t : TA) : TE := fun σ G Q => t σ G fun xs G1 => xs.length ≤ sizeLine ∧ ∀ p G', G1 p = none → Same G1 G' → G' p = some (.tup xs) → Q (.ref p) G'
def nLst (t : TA) : TE := fun σ G Q => t σ G fun xs G1 => xs.length ≤ sizeLine ∧ ∀ p G', G1 p = none → Same G1 G' → G' p = some (.lst xs) → Q (.ref p) G'
theorem pn_tup {x1} (h : PA X es t) : PE X (.Tuple es x1 pos) (nTup t) := by
  constructor
  intro pins s σ G Q I hq
  refine wpAny_Tuple_spliced (thn (h.run pos pins s σ G _ I hq) ?_)
  rintro us s1 ⟨xs, G1, I1, r, z, q⟩
  refine ⟨r.length ▸ z, ?_⟩
  have hf : G1 s1.heap.objs.size = none := I1.hok.fresh (Nat.le_refl _)
  refine ⟨.ref s1.heap.objs.size, L2.upd G1 s1.heap.objs.size (.tup xs), I1.laid (t' := s1.toks) (fun b u e => Heap.get?_push_of_some _ e) (Nat.le_refl _) ?_, rfl, q _ _ hf (Same.new hf) upd_same⟩
  exact ⟨z, us, r, ⟨_, Heap.get?_push_size _ rfl, rfl, _, rfl⟩⟩
theorem pn_lst (h : PA X es t) : PE X (.List es pos) (nLst t) := by
  constructor
  intro pins s σ G Q I hq
  refine wpAny_List_spliced (thn (h.run pos pins s σ G _ I hq) ?_)
  rintro us s1 ⟨xs, G1, I1, r, z, q⟩
  refine ⟨r.length ▸ z, ?_⟩
  have hf : G1 s1.heap.objs.size = none := I1.hok.fresh (Nat.le_refl _)
  refine ⟨.ref s1.heap.objs.size, L2.upd G1 s1.heap.objs.size (.lst xs), I1.laid (t' := s1.toks) (fun b u e => Heap.get?_push_of_some _ e) (Nat.le_refl _) ?_, rfl, q _ _ hf (Same.new hf) upd_same⟩
  exact ⟨z, us, 0, r, Heap.get?_push_size _ rfl⟩
theorem opr_imp {f : Value → Value → Sem Value} {r r' : R2} (h : OpR X f r) (k : ∀ x y G Q, r' x y G Q → r x y G Q) : OpR X f r' := fun pins s σ G x y v u Q I rx ry q => h pins s σ G x y v u Q I rx ry (k x y G Q q)
theorem callr_imp {f : Value} {r r' : List V → Hp → VK → Prop} (h : CallR X f r) (k : ∀ xs G Q, r' xs G Q → r xs G Q) : CallR X f r' := fun pins s σ G xs us Q I r q => h pins s σ G xs us Q I r (k xs G Q q)
def nCat : R2 := fun x y G Q => ∃ l b xs zs, x = .ref l ∧ y = .ref b ∧ G l = some (.lst xs) ∧ G b = some (.lst zs) ∧ xs.length + zs.length ≤ sizeLine ∧ ∀ p G', G p = none → Same G G' → G' p = some (.lst (xs ++ zs)) → Q (.ref p) G'
theorem on_cat : OpR X (binaryOp .Add) nCat := opr_imp op_cat fun x y G Q ⟨l, b, xs, zs, e1, e2, h1, h2, hz, q⟩ => ⟨l, b, xs, zs, e1, e2, h1, h2, hz, fun p hp => q p _ hp (Same.new hp) upd_same⟩
def nRep : R2 := fun x y G Q => ∃ l k xs, x = .ref l ∧ y = .int k ∧ G l = some (.lst xs) ∧ -(2 ^ 63) ≤ k ∧ k < 2 ^ 63 ∧ xs.length * k.toNat ≤ sizeLine ∧ ∀ p G', G p = none → Same G G' → G' p = some (.lst (List.replicate k.toNat xs).flatten) → Q (.ref p) G'
theorem on_rep : OpR X (binaryOp .Mult) nRep := opr_imp op_rep fun x y G Q ⟨l, k, xs, e1, e2, h1, h2, h3, hz, q⟩ => ⟨l, k, xs, e1, e2, h1, h2, h3, hz, fun p hp => q p _ hp (Same.new hp) upd_same⟩
def nList (K : PySem.W.Frag) : List V → Hp → VK → Prop := fun vs G Q => ∃ p ys, vs = [.ref p] ∧ (SqL K G p ys ∨ SqT K G p ys) ∧ ∀ l G', G l = none → Same G G' → G' l = some (.lst ys) → Q (.ref l) G'
theorem cn_list : CallR X (.type "list") (nList X.K) := callr_imp call_list_of fun xs G Q ⟨p, ys, e, h, q⟩ => ⟨p, ys, e, h, fun l hl => q l _ hl (Same.new hl) upd_same⟩
/-- tuple(a list) -/
def nTuple (K : PySem.W.Frag) : List V → Hp → VK → Prop := fun vs G Q => ∃ p ys, vs = [.ref p] ∧ SqL K G p ys ∧ ∀ l G', G l = none → Same G G' → G' l = some (.tup ys) → Q (.ref l) G'
theorem cn_tuple : CallR X (.type "tuple") (nTuple X.K) := callr_imp call_tuple_of fun xs G Q ⟨p, ys, e, h, q⟩ => ⟨p, ys, e, .inl ⟨h, fun l hl => q l _ hl (Same.new hl) upd_same⟩⟩
theorem pe_imp {e : Expr} {te te' : TE} (h : PE X e te) (k : ∀ σ G Q, te' σ G Q → te σ G Q) : PE X e te' := ⟨fun pins s σ G Q I q => h.run pins s σ G Q I (k σ G Q q)⟩
def nDict : TE := fun _ G Q => ∀ p G', G p = none → Same G G' → G' p = some (.dK []) → Q (.ref p) G'
theorem pn_dict : PE X (.Dict [] [] pos) nDict := pe_imp pe_dnewK fun σ G Q q p hp => q p _ hp (Same.new hp) upd_same
end
/-! ### what is read stays -/
mutual
theorem dp_same {K : PySem.W.Frag} {G G' : Hp} (s : Same G G') : ∀ {v : V} {d : PyData}, Dp K G v d → Dp K G' v d
  | _, _, .non => .non
  | _, _, .bl b => .bl b
  | _, _, .int i => .int i
  | _, _, .str x => .str x
  | _, _, .lst h r => .lst (s.seq h) (dps_same s r)
  | _, _, .tup h r => .tup (by
      rcases h with (h | ⟨o, h⟩) | h
      · exact .inl (.inl (s _ _ h))
      · exact .inl (.inr ⟨o, s _ _ h⟩)
      · exact .inr h) (dps_same s r)
theorem dps_same {K : PySem.W.Frag} {G G' : Hp} (s : Same G G') : ∀ {vs : List V} {ds : List PyData}, DpAll K G vs ds → DpAll K G' vs ds
  | _, _, .nil => .nil
  | _, _, .cons h r => .cons (dp_same s h) (dps_same s r)
end
/-- no text, of a known type -/
def Odd (K : PySem.W.Frag) (G : Hp) (v : V) : Prop := (∀ x, v ≠ .str x) ∧ ((v = .non ∨ (∃ b, v = .bl b) ∨ ∃ i, v = .int i) ∨ ∃ a o, v = .ref a ∧ G a = some o ∧ ((∃ xs, o = .lst xs) ∨ (∃ xs, o = .tup xs) ∨ ∃ kvs, o = .dK kvs))
theorem Odd.same {K : PySem.W.Frag} {G G' : Hp} {v : V} (h : Odd K G v) (s : Same G G') : Odd K G' v := by
  obtain ⟨h1, h2 | ⟨a, o, e, ha, h3⟩⟩ := h
  · exact ⟨h1, .inl h2⟩
  · exact ⟨h1, .inr ⟨a, o, e, s _ _ ha, h3⟩⟩
theorem Odd.known {K : PySem.W.Frag} {G : Hp} {v : V} (h : Odd K G v) : Known K G v := by
  refine .inr ⟨h.1, ?_⟩
  obtain ⟨_, (rfl | ⟨b, rfl⟩ | ⟨i, rfl⟩) | ⟨a, o, rfl, ha, ⟨xs, rfl⟩ | ⟨xs, rfl⟩ | ⟨kvs, rfl⟩⟩⟩ := h
  · exact ⟨_, .base .non, kit_ty (by decide +kernel)⟩
  · exact ⟨_, .base (.bl b), kit_ty (by decide +kernel)⟩
  · exact ⟨_, .base (.int i), kit_ty (by decide +kernel)⟩
  · exact ⟨_, .base (.lst ha), kit_ty (by decide +kernel)⟩
  · exact ⟨_, .base (.tup ha), kit_ty (by decide +kernel)⟩
  · exact ⟨_, .base (.dK ha), kit_ty (by decide +kernel)⟩
/-! ### repr of a tuple of texts -/
/-! ### what is heard of words put together -/
theorem due_words {ps : List Str} (h : ∀ p ∈ ps, wordS p = true) : dueD ps = told ps := by
  unfold dueD
  split
  · rename_i e
    rcases e with rfl | rfl
    · rfl
    · exact absurd (h nothing List.mem_cons_self) (by decide +kernel)
  · rw [findIdx_none fun j b hb => by rw [h b (List.mem_of_getElem? hb)]; rfl]
theorem eqv_same {d : PyData} (h : SeqAt.shaped d = true) : PyData.eqv d d = true := SeqAt.eqv_refl d (SeqAt.canLay_of_shaped h)
end Qh
set_option Elab.async false
set_option linter.all false
set_option maxRecDepth 100000
set_option maxHeartbeats 4000000
/-! Own ==, !=, str, repr of instances with a dict of their own. -/
namespace Qp
open PySem PySem.Spec PyProof.Rows L2 TL Qh SlX
section
variable {prog : Program} {w : World} {A : Around} {E : Value → Shared → Prop} {s : Shared} {K : PySem.W.Frag} {x C f L : Addr} {h₀ : Heap} {m : Str → Option Value} {ox : Obj} {od : Option Obj} {b tb : Value}
end
section
variable {X : Cx} {CX : CXT} {C g : Addr} {n : Nat} {sp : Sp} {E : XK}
end
end Qp
set_option Elab.async false
set_option linter.all false
set_option maxRecDepth 100000
set_option maxHeartbeats 4000000
/-! A walk over a list or a tuple; max(a list of ints, default = d); enumerate(a tuple); o.m(k = v). -/
namespace Ql
open PySem PySem.Spec PyProof.Rows L2 Qh PySem.W
section
variable {X : Cx} {tg : Expr}
/-! ### max(xs, default = d) -/
/-! ### enumerate(tuple) -/
open AutoSeq1 (wpAny_loadPart') in
theorem meets_enumT (l : Addr) (items : Array Value) (n : Nat) (dct : Option Addr) (sl : Array (Option Value)) :
    Meets (Builtin.«enumerate.__new__» ⟨[.type "enumerate", .ref l], []⟩) (fun _ R s => s.heap.get? l = some { cls := .type "tuple", dict := dct, data := .seq items n, slots := sl } ∧
      R (.ok (.ret (.ref (s.heap.push { cls := .type "tuple_iterator", data := .fields #[.ref l, .int 0 0] }).objs.size)))
        { s with heap := (s.heap.push { cls := .type "tuple_iterator", data := .fields #[.ref l, .int 0 0] }).push { cls := .type "enumerate", data := .fields #[.none, .bool false, .ref s.heap.objs.size, rawInt 0, .none, .none] } }) :=
  .of_wp fun prog w A R s h => by
    obtain ⟨hp, g, d, tk, os⟩ := s
    obtain ⟨hl, h⟩ := h
    have hsub := sub_enumerate
    have hL : Heap.IsTuple (Shared.heap ⟨hp, g, d, tk, os⟩) l items := ⟨_, hl, rfl, n, rfl⟩
    wp_walk using wpAny_loadPart' hl
    refine wpAny_stack_any fun st => wpAny_pure ?_
    split
    · rename_i c _ _ _ _ _
      cases (c == Value.type "enumerate")
      · wp_walk using wpAny_loadPart' hl, wpAny_pyIter_tuple hL
        exact ⟨_, rfl, h⟩
      · wp_walk using wpAny_loadPart' hl, wpAny_pyIter_tuple hL
        exact ⟨_, rfl, h⟩
    · wp_walk using wpAny_loadPart' hl, wpAny_pyIter_tuple hL
      exact ⟨_, rfl, h⟩
theorem call_enumT {prog : Program} {w : World} {A : Around} {E : Value → Shared → Prop} {s : Shared} {l : Addr} {items : Array Value} {Q : Value → Shared → Prop} (hL : s.heap.IsTuple l items)
    (h : ∀ h', IsEnum h' (s.heap.objs.size + 1) s.heap.objs.size 0 .none → h'.IsTupleIter s.heap.objs.size l 0 → h'.objs.size = s.heap.objs.size + 2 →
      (∀ b o, s.heap.get? b = some o → h'.get? b = some o) → Q (.ref (s.heap.objs.size + 1)) { s with heap := h' }) :
    wpAny (model prog w) A (call (.type "enumerate") [.ref l]) Q E s := by
  obtain ⟨⟨c, dct, dt, sl⟩, hl, hc, n, hd⟩ := hL
  replace hc : c = .type "tuple" := hc
  replace hd : dt = .seq items n := hd
  subst hc hd
  refine callType_new F.called_enumerate (by decide) (F.typeCall_enumerate_1 _) (F.newCall_enumerate_1 _) (fun obj => F.args_object_init_2 obj _) F.entry_enumerate_new
    (meets_enumT l items n dct sl) ⟨hl, ?_⟩
  have hz : (s.heap.push { cls := .type "tuple_iterator", data := .fields #[.ref l, .int 0 0] }).objs.size = s.heap.objs.size + 1 := Heap.size_push ..
  show _ ∧ _
  rw [hz]
  have he : IsEnum ((s.heap.push { cls := .type "tuple_iterator", data := .fields #[.ref l, .int 0 0] }).push
      { cls := .type "enumerate", data := .fields #[.none, .bool false, .ref s.heap.objs.size, rawInt 0, .none, .none] }) (s.heap.objs.size + 1) s.heap.objs.size 0 .none := by
    have := Heap.get?_push_size (s.heap.push { cls := .type "tuple_iterator", data := .fields #[.ref l, .int 0 0] })
      (o := { cls := .type "enumerate", data := .fields #[.none, .bool false, .ref s.heap.objs.size, rawInt 0, .none, .none] }) rfl
    rw [hz] at this; exact this
  refine ⟨⟨_, he, rfl⟩, h _ he ⟨_, Heap.get?_push_of_some _ (Heap.get?_push_size _ rfl), rfl, rfl⟩ (by rw [Heap.size_push, hz]) fun b o x => Heap.get?_push_of_some _ (Heap.get?_push_of_some _ x)⟩
def IteT (K : PySem.W.Frag) (a : Addr) : It :=
  ⟨fun i H => ∃ (xs : List V) (x : V), SqT K H a xs ∧ xs[i]? = some x, fun i H v H' => ∃ T x, v = .ref T ∧ H T = none ∧ H' = upd H T (.tup [.int (i : Nat), x]) ∧ ∀ xs, SqT K H a xs → xs[i]? = some x, fun i H => ∃ xs : List V, SqT K H a xs ∧ xs.length ≤ i⟩
theorem turn_enumT {P : Program} {w : World} {K : PySem.W.Frag} {elts : List Expr} {kk : Nat} {tpos : Pos} (a e it : Addr) :
    Turn P w K (.Tuple elts kk tpos) (IteT K a) [e, it] e (fun i h => (∃ old, IsEnum h e it ((i : Nat) : Int) old) ∧ h.IsTupleIter it a i ∧ e ≠ it ∧ a ≠ it ∧ a ≠ e) where
  mem := by simp
  obj := fun i h st b hb => by
    obtain ⟨⟨old, he⟩, ⟨o, ho, hc, hd⟩, _⟩ := st
    have e' : b = e ∨ b = it := by simpa using hb
    rcases e' with z | z
    · rw [z]; exact ⟨_, he, fun v q => nomatch q⟩
    · rw [z]; exact ⟨o, ho, fun v q => by rw [hd] at q; cases q⟩
  keep := fun i h h' st k => let ⟨⟨old, he⟩, hi, hne⟩ := st; ⟨⟨old, k e (by simp) _ he⟩, hi.at fun o q => k it (by simp) o q, hne⟩
  item := by
    intro X hP hw hK hc i pins s σ H E I hf st hg
    subst hP hw hK
    obtain ⟨⟨old, he⟩, hit, hne, hai, hae⟩ := st
    obtain ⟨xs, x, hq, hx⟩ := hg
    obtain ⟨its, rv, p, hz⟩ := I.tuple hq
    have p : s.heap.IsTuple a its.toArray := p
    obtain ⟨u, hu, ru⟩ := rv.get hx
    have hel : e < s.heap.objs.size := Heap.lt_size he
    have hil : it < s.heap.objs.size := by obtain ⟨_, q, _⟩ := hit; exact Heap.lt_size q
    have hlt : i < its.toArray.size := by
      have := (List.getElem?_eq_some_iff.mp hu).1
      simpa using this
    refine wpAny_pyNext_enum_itemD (Draws.tuple (A := X.A.in1) (I.ok.hd hc) it a hai its.toArray) he ⟨hit, p⟩ hlt hne (by simp only [List.mem_cons, List.not_mem_nil, or_false, not_or]; exact ⟨hne, Ne.symm hae⟩) fun v h' tk hv ho st' hT hsz hk => ?_
    have ev : v = u := by
      have hu' : its.toArray[i]? = some u := by simpa using hu
      have h2 : its.toArray[i]? = some v := hv
      rw [hu'] at h2
      exact (Option.some.inj h2).symm
    subst ev
    have hit' := st'.1
    refine ⟨_, rfl, wpAny_letOwnedTupleGo_enum (s := { s with heap := h', toks := tk + 1 }) ho fun h'' he' sb => ?_⟩
    have hT2 : h''.get? s.heap.objs.size = some { cls := .type "tuple", data := .seq #[.int i tk, v] } := (sb.2 _ (Nat.ne_of_gt hel)).trans hT
    have new : ObjOk X.prog X.w (upd H s.heap.objs.size (.tup [.int (i : Nat), x])) h'' s.heap.objs.size (.tup [.int (i : Nat), x]) :=
      ⟨by show 2 ≤ sizeLine; decide, [.int i tk, v], .cons ⟨_, rfl⟩ (.cons ru .nil), ⟨_, hT2, rfl, _, rfl⟩⟩
    have I1 : Inv X pins σ (upd H s.heap.objs.size (.tup [.int (i : Nat), x])) { s with heap := h'', toks := tk + 1 } :=
      I.turnedNew (ch := [e, it]) (fun b ob hb q => (sb.2 b (fun z => hb (by simp [z]))).trans (hk b ob (fun z => hb (by simp [z])) (fun z => hb (by simp [z])) q)) hf (Nat.le_refl _) new
    refine ⟨.ref s.heap.objs.size, _, I1, rfl, ⟨_, x, rfl, I.hok.fresh (Nat.le_refl _), rfl, fun ys hy => by rw [I.tuple_inj hy hq]; exact hx⟩, ⟨⟨v, ?_⟩, hit'.at fun o q => (sb.2 it (Ne.symm hne)).trans q, hne, hai, hae⟩, fun b hb => ?_⟩
    · have e1 : ((i + 1 : Nat) : Int) = (i : Int) + 1 := by omega
      rw [e1]; exact he'
    · have hb' : b < s.heap.objs.size := by
        have e' : b = e ∨ b = it := by simpa using hb
        rcases e' with z | z
        · rw [z]; exact hel
        · rw [z]; exact hil
      rw [upd_ne (Nat.ne_of_lt hb')]
      exact (hf b hb).1
  done := by
    intro X hP hw hK hc i pins s σ H E I hf st hg
    subst hP hw hK
    obtain ⟨⟨old, he⟩, hit, hne, hai, hae⟩ := st
    obtain ⟨xs, hq, hx⟩ := hg
    obtain ⟨its, rv, p, hz⟩ := I.tuple hq
    have p : s.heap.IsTuple a its.toArray := p
    obtain ⟨f0, f1, f2, f3, f4, f5⟩ := hf it (by simp)
    have hl := rv.length
    have hT : s.TypeIs (.ref e) "enumerate" := ⟨_, he, rfl⟩
    unfold pyNext
    refine wpAny_bind (wpAny_attempt (wpAny_callSpecial?_slot (name := Str.ofString "__next__") hT F.slot_enumerate_next
      (wpAny_call_entry F.slot_enumerate_next hT F.entry_enumerate_next ?_ (F.args_enumerate_next_1 _))))
    show wpAny _ _ (field (.ref e) 2 >>= _) _ _ _
    refine wpAny_bind (wpAny_field he rfl (x := .ref it) rfl ?_)
    refine wpAny_bind (wpAny_nextOf_tuple_end (I.ok.hd hc) hit p (by simp; omega) fun h' x he' hx' => ?_)
    obtain ⟨o, ho, hcl⟩ := hx'
    refine wpAny_bind (wpAny_isInstance (T := "StopIteration") (b := true) ⟨o, ho, hcl⟩ isSubtype_stop ?_)
    exact wpAny_pure ⟨rfl, I.turned (t' := s.toks) (fun b o hb q => he' b o hb q) f0 f1 f3 f4 f5⟩
  self := fun A i s Q E st h => let ⟨⟨_, he⟩, _⟩ := st; wpAny_pyIter_enum he h
def iEnumT (K : PySem.W.Frag) (ta : TA) : TI := fun σ H R => ta σ H fun vs H1 => ∃ a xs, vs = [.ref a] ∧ SqT K H1 a xs ∧ R (IteT K a) H1
theorem pi_enumT {e : Expr} {ta : TA} {p pos tpos : Pos} {elts : List Expr} {kk : Nat} (hg : Gl X "enumerate") (hm : X.mg "enumerate" = none) (ha : PA X [e] ta) (hs : starEach [e] X.env = [(false, eval e X.env)] := by rfl) :
    PI X (.Tuple elts kk tpos) (.Call (.Name "enumerate" p) [e] [] pos) (iEnumT X.K ta) := by
  refine ⟨fun pins s σ H R I h => ?_⟩
  refine Call_ (ld_blt I hg hm boot_enumerate (PyProof.Rows.callWith_type1 (thn (ha.run pos pins s σ H _ I h) fun us s1 ⟨vs, H1, I1, r1, q1⟩ => ?_) hs rfl))
  obtain ⟨a, xs, ex, hq, q⟩ := q1
  subst ex
  cases r1 with
  | cons r rr =>
    cases rr
    cases r
    obtain ⟨its, rv, p', hz⟩ := I1.tuple hq
    have p' : s1.heap.IsTuple a its.toArray := p'
    have la : a < s1.heap.objs.size := by obtain ⟨_, h1, _⟩ := p'; exact Heap.lt_size h1
    refine call_enumT p' fun h' he hit hsz hk => wpAny_pyIter_enum he ?_
    have I2 : Inv X pins σ H1 { s1 with heap := h' } := I1.kept (t' := s1.toks) hk
    refine ⟨s1.heap.objs.size + 1, [s1.heap.objs.size + 1, s1.heap.objs.size], _, _, H1, rfl, I2, turn_enumT a (s1.heap.objs.size + 1) s1.heap.objs.size, ⟨⟨.none, he⟩, hit, Nat.succ_ne_self _, Nat.ne_of_lt la, Nat.ne_of_lt (Nat.lt_succ_of_lt la)⟩, fun b hb => ?_, q⟩
    have e' : b = s1.heap.objs.size + 1 ∨ b = s1.heap.objs.size := by simpa using hb
    have hle : s1.heap.objs.size ≤ b := by
      rcases e' with z | z
      · rw [z]; exact Nat.le_add_right _ _
      · rw [z]; exact Nat.le_refl _
    exact I1.fpOk hle (I1.hok.fresh hle)
theorem walk_enumT {K : PySem.W.Frag} {a : Addr} {xs : List V} : Walk (IteT K a) xs.length (fun H => SqT K H a xs) (YPair (fun i => some (.int (i : Nat))) (fun i => xs[i]?)) := by
  refine ⟨fun i _ hi q => ⟨xs, xs[i], q, by simp [hi]⟩, fun _ q => ⟨xs, q, Nat.le_refl _⟩, fun i H v H' _ q y => ?_⟩
  obtain ⟨T, x, h1, h2, h3, h4⟩ := y
  exact ⟨T, .int (i : Nat), x, h1, h2, h3, rfl, h4 xs q⟩
end
end Ql
set_option Elab.async false
set_option linter.all false
set_option maxRecDepth 100000
set_option maxHeartbeats 4000000
/-! Sets of texts: what stands in them, a text added, made of a row, sorted. -/
namespace Qs
open PySem PySem.Spec PyProof.Rows L2
def keyX (e : Int × Value) : Str := match e.2 with
  | .str x _ => x
  | _ => Str.empty
def GoodX (w : World) (e : Int × Value) : Prop := ∃ x tk, e.2 = Value.str x tk ∧ e.1 = hashStr w x
/-- the set at a has just the texts ks -/
def SetX (w : World) (h : Heap) (a : Addr) (ks : List Str) : Prop := ∃ o es ep t, h.get? a = some o ∧ o.ExactSet ∧ o.data = .set es ep t ∧ (∀ e ∈ es.toList, GoodX w e) ∧ (es.toList.map keyX).Perm ks ∧ ks.Nodup ∧
  es.size < scanBound ∧ t.fits es.size = true ∧ Ris t.place.toList ∧ (w.params.followText "set-order" = true ∨ t.led = true)
section
variable {P : Program} {w : World} {h h' : Heap} {a : Addr} {ks : List Str}
theorem SetX.at (R : SetX w h a ks) (k : ∀ o, h.get? a = some o → h'.get? a = some o) : SetX w h' a ks := by
  obtain ⟨o, es, ep, t, hob, more⟩ := R
  exact ⟨o, es, ep, t, k o hob, more⟩
theorem SetX.lt (R : SetX w h a ks) : a < h.objs.size := by
  obtain ⟨o, es, ep, t, hob, _⟩ := R
  exact Heap.lt_size hob
theorem str_is (x : Str) (tk : Tok) : (strKind P w).is x (.str x tk) = true := strKind_is P w x tk
theorem goods_elems {l : List (Int × Value)} (gd : ∀ e ∈ l, GoodX w e) : ElemsOf (strKind P w) l := fun e he => by
  obtain ⟨x, tk, e1, e2⟩ := gd e he
  exact ⟨⟨x, by rw [e1]; exact str_is x tk, e2⟩, by rw [e1] <;> rfl⟩
theorem good_key {e : Int × Value} (gd : GoodX w e) (x : Str) : (strKind P w).is x e.2 = true ↔ keyX e = x := by
  obtain ⟨y, tk, e1, _⟩ := gd
  have ek : keyX e = y := by
    unfold keyX
    rw [e1]
  rw [e1, ek]
  constructor
  · intro z
    exact (strKind P w).inj _ _ _ (str_is y tk) z
  · intro z
    rw [← z]
    exact str_is y tk
theorem put_get {o : Obj} {es es' : Array (Int × Value)} {ep : Nat} {t t' : SetTable} (hob : h.get? a = some o) (hdt : o.data = .set es ep t) :
    (h.update a (Obj.putSet es' t')).get? a = some { o with data := .set es' (ep + 1) t' } := L2.store_at hob hdt
end
section
variable {P : Program} {w : World} {A : Around} {E : Value → Shared → Prop} {s : Shared} {a : Addr} {ks : List Str}
theorem tail_add {g : Bool → Sem Unit} (quiet : ∀ (b : Bool) (s₁ : Shared) (Q' : Unit → Shared → Prop), Q' () s₁ → wpAny (model P w) A (g b) Q' E s₁)
    {o : Obj} {es : Array (Int × Value)} {ep : Nat} {t : SetTable} (hob : s.heap.get? a = some o) (exact_ : o.ExactSet) (hdt : o.data = .set es ep t)
    {es1 : Array (Int × Value)} {t2 : SetTable} {ks1 : List Str} (gd : ∀ e ∈ es1.toList, GoodX w e) (pm1 : (es1.toList.map keyX).Perm ks1) (nd1 : ks1.Nodup)
    (few : es1.size < scanBound) (fit : t2.fits es1.size = true) (rise : Ris t2.place.toList) (led : w.params.followText "set-order" = true ∨ t2.led = true) {wasDummy : Bool} {R : Option Bool → Shared → Prop}
    (hR : ∀ h', Heap.SameBut a s.heap h' → SetX w h' a ks1 → R (some true) { s with heap := h' }) :
    wpAny (model P w) A (do
        storeSet a es1 t2
        if (!wasDummy && t2.tooFull) = true then do
            g (relayAll t2 es1 (SetTable.grown es1.size)).2.2
            storeSet a (relayAll t2 es1 (SetTable.grown es1.size)).1 (relayAll t2 es1 (SetTable.grown es1.size)).2.1
            pure (some true)
          else pure (some true)) R E s := by
  refine wpAny_bind (wpAny_storeSet_of hob hdt ?_ (fits_of_scanBound few))
  have laid := put_get (es' := es1) (t' := t2) hob hdt
  have same1 := Heap.SameBut.update s.heap a (Obj.putSet es1 t2)
  split
  · have pmR := relayAll_perm t2 es1 (SetTable.grown es1.size)
    have fitR := relayAll_fits t2 es1 (SetTable.grown es1.size)
    have riseR := relayAll_ris t2 es1 (SetTable.grown es1.size)
    have ledR := relayAll_led t2 es1 (SetTable.grown es1.size)
    generalize relayAll t2 es1 (SetTable.grown es1.size) = Y at pmR fitR riseR ledR ⊢
    obtain ⟨es2, t3, gave⟩ := Y
    dsimp only at pmR fitR riseR ledR ⊢
    have size2 : es2.size = es1.size := by rw [← Array.length_toList, pmR.length_eq, Array.length_toList]
    have few2 : es2.size < scanBound := by rw [size2]; exact few
    refine wpAny_bind (quiet _ _ _ ?_)
    refine wpAny_bind (wpAny_storeSet_of laid rfl ?_ (fits_of_scanBound few2))
    have laid2 := put_get (es' := es2) (t' := t3) laid rfl
    refine wpAny_pure (hR _ (same1.trans (Heap.SameBut.update _ a _)) ⟨_, es2, _, t3, laid2, exact_, rfl, fun e he => gd e (pmR.mem_iff.mp he), (pmR.map keyX).trans pm1, nd1, few2, fitR, riseR, ?_⟩)
    rcases led with z | z
    · exact .inl z
    · exact .inr (by rw [ledR]; exact z)
  · exact wpAny_pure (hR _ same1 ⟨_, es1, _, t2, laid, exact_, rfl, gd, pm1, nd1, few, fit, rise, led⟩)
/-- what the set has behind x -/
def more (ks : List Str) (x : Str) : List Str := if x ∈ ks then ks else x :: ks
theorem hashed_add {x : Str} {tk : Tok} {Q : Bool → Shared → Prop} (R : SetX w s.heap a ks) (room : ks.length + 1 < scanBound)
    (hQ : ∀ h' b, Heap.SameBut a s.heap h' → SetX w h' a (more ks x) → Q b { s with heap := h' }) :
    wpAny (model P w) A (setAddHashed a (.str x tk) ((strKind P w).hash x)) Q E s := by
  obtain ⟨o, es, ep, t, hob, exact_, hdt, gd, pm, nd, few, fit, rise, led⟩ := R
  have isx : (strKind P w).is x (.str x tk) = true := str_is x tk
  have scan : (Value.str x tk).scannable = true := rfl
  have elems : ElemsOf (strKind P w) es.toList := goods_elems gd
  have many : es.size = ks.length := by rw [← pm.length_eq, List.length_map, Array.length_toList]
  unfold setAddHashed setAddHashedIn
  refine wpAny_holding (wpAny_bind (wpAny_setState_of hob hdt fit ?_))
  dsimp only
  rw [byScan_of scan few elems]
  simp only [↓reduceIte]
  unfold setAddByScan
  refine wpAny_bind ?_
  refine wpAny_bind (wpAny_rule ?_)
  refine wpAny_bind (wpAny_setScan_of isx hob hdt fit elems ?_)
  cases found : List.findIdx? (fun e => (strKind P w).is x e.2) es.toList with
  | some j =>
    dsimp only
    obtain ⟨hj, pj, _⟩ := List.findIdx?_eq_some_iff_getElem.mp found
    have inx : x ∈ ks := pm.mem_iff.mp (List.mem_map.mpr ⟨es.toList[j], List.getElem_mem hj, (good_key (P := P) (gd _ (List.getElem_mem hj)) x).1 pj⟩)
    refine wpAny_pure (wpAny_pure ?_)
    refine hQ s.heap _ (Heap.SameBut.refl a s.heap) ⟨o, es, ep, t, hob, exact_, hdt, gd, ?_, ?_, few, fit, rise, led⟩
    · unfold more
      rw [if_pos inx]
      exact pm
    · unfold more
      rw [if_pos inx]
      exact nd
  | none =>
    dsimp only
    have notin : x ∉ ks := fun z => by
      obtain ⟨e, he, q⟩ := List.mem_map.mp (pm.mem_iff.mpr z)
      have c := List.findIdx?_eq_none_iff.mp found e he
      rw [(good_key (P := P) (gd e he) x).2 q] at c
      cases c
    have quiet : ∀ (b : Bool) (s₁ : Shared) (Q' : Unit → Shared → Prop), Q' () s₁ → wpAny (model P w) A (match b with | true => rule "set.scan.the-table-gave-way" | false => pure ()) Q' E s₁ := fun b s₁ Q' z => by
      cases b
      · exact wpAny_pure z
      · exact wpAny_rule z
    have pmL := layNew_perm t es ((strKind P w).hash x) (.str x tk)
    have fitL := layNew_fits t es ((strKind P w).hash x) (.str x tk)
    have riseL := layNew_ris t es ((strKind P w).hash x) (.str x tk) rise
    have ledL := layNew_led t es ((strKind P w).hash x) (.str x tk)
    generalize layNew t es ((strKind P w).hash x) (.str x tk) = Y at pmL fitL riseL ledL ⊢
    obtain ⟨es1, t1, wasDummy, gave⟩ := Y
    dsimp only at pmL fitL riseL ledL ⊢
    rw [Array.toList_push] at pmL
    have pmC : es1.toList.Perm (((strKind P w).hash x, Value.str x tk) :: es.toList) := pmL.trans (List.perm_append_singleton _ _)
    have pmK : (es1.toList.map keyX).Perm (x :: ks) := (pmC.map keyX).trans (pm.cons x)
    have gd1 : ∀ e ∈ es1.toList, GoodX w e := fun e he => by
      rcases List.mem_cons.mp (pmC.mem_iff.mp he) with z | z
      · rw [z]
        exact ⟨x, tk, rfl, rfl⟩
      · exact gd e z
    have nd1 : (x :: ks).Nodup := List.nodup_cons.mpr ⟨notin, nd⟩
    have few1 : es1.size < scanBound := by
      rw [← Array.length_toList, pmC.length_eq, List.length_cons, Array.length_toList, many]
      exact room
    have led1 : w.params.followText "set-order" = true ∨ t1.led = true := by
      rcases led with z | z
      · exact .inl z
      · exact .inr (by rw [ledL]; exact z)
    have fin : ∀ h', Heap.SameBut a s.heap h' → SetX w h' a (x :: ks) → Q true { s with heap := h' } := fun h' sb r => hQ h' _ sb (by
      unfold more
      rw [if_neg notin]
      exact r)
    refine wpAny_bind (quiet _ _ _ ?_)
    split
    · refine wpAny_bind ?_
      rw [hashByValue_scannable 8 scan]
      refine wpAny_pure ?_
      refine tail_add ?_ hob exact_ hdt gd1 pmK nd1 few1 ?_ ?_ ?_ ?_
      · intro b s₁ Q' z; cases b <;> first | exact wpAny_pure z | exact wpAny_rule z
      · first | (split <;> first | exact fitL | exact SetTable.fits_plain_off fitL) | exact fitL
      · first | (split <;> exact riseL) | exact riseL
      · first | (split <;> exact led1) | exact led1
      · intro h' sb r; dsimp only; exact wpAny_pure (fin h' sb r)
    · refine wpAny_bind (wpAny_pure ?_)
      simp only [↓reduceIte]
      refine tail_add ?_ hob exact_ hdt gd1 pmK nd1 few1 fitL riseL led1 ?_
      · intro b s₁ Q' z; cases b <;> first | exact wpAny_pure z | exact wpAny_rule z
      · intro h' sb r; dsimp only; exact wpAny_pure (fin h' sb r)
end
end Qs
set_option Elab.async false
set_option linter.all false
set_option maxRecDepth 100000
set_option maxHeartbeats 4000000
/-! set(a list or tuple of texts). -/
namespace Qs
open PySem PySem.Spec PyProof.Rows L2
def metOf (l : List Str) (i : Nat) : List Str := (l.take i).foldl more []
theorem metOf_succ {l : List Str} {i : Nat} {x : Str} (h : l[i]? = some x) : metOf l (i + 1) = more (metOf l i) x := by
  unfold metOf
  rw [List.take_succ, h]
  show ((l.take i) ++ [x]).foldl more [] = _
  rw [List.foldl_append]
  rfl
theorem more_len (ks : List Str) (x : Str) : (more ks x).length ≤ ks.length + 1 := by
  unfold more
  split
  · omega
  · simp
theorem fold_len : ∀ (l ks : List Str), (l.foldl more ks).length ≤ ks.length + l.length
  | [], ks => by simp
  | x :: l, ks => by
    have h1 := fold_len l (more ks x)
    have h2 := more_len ks x
    simp only [List.foldl_cons, List.length_cons]
    omega
theorem met_len (l : List Str) (i : Nat) : (metOf l i).length ≤ i := by
  have h := fold_len (l.take i) []
  simp only [List.length_nil, List.length_take] at h
  unfold metOf
  omega
theorem more_mem (ks : List Str) (x y : Str) : y ∈ more ks x ↔ y ∈ ks ∨ y = x := by
  unfold more
  by_cases h : x ∈ ks
  · rw [if_pos h]
    constructor
    · exact fun z => .inl z
    · rintro (z | z)
      · exact z
      · rw [z]
        exact h
  · rw [if_neg h, List.mem_cons]
    exact Or.comm
theorem fold_mem : ∀ (l ks : List Str) (y : Str), y ∈ l.foldl more ks ↔ y ∈ ks ∨ y ∈ l
  | [], ks, y => by simp
  | x :: l, ks, y => by
    rw [List.foldl_cons, fold_mem l (more ks x) y, more_mem, List.mem_cons, or_assoc]
theorem met_mem (l : List Str) (y : Str) : y ∈ metOf l l.length ↔ y ∈ l := by
  unfold metOf
  rw [List.take_length, fold_mem]
  simp
theorem fresh_x {h : Heap} {a : Addr} (w : World) (hob : h.get? a = some { cls := .type "set", dict := none, data := .set #[] 0 (.fresh 0 0 (!w.params.followText "set-order")) }) : SetX w h a [] :=
  ⟨_, #[], 0, _, hob, ⟨rfl, rfl, rfl⟩, rfl, (fun e he => by simp at he), (by simp), List.nodup_nil, (by decide), (by rfl), List.Pairwise.nil, by
    show _ ∨ (!w.params.followText "set-order") = true
    cases w.params.followText "set-order"
    · exact .inr rfl
    · exact .inl rfl⟩
section
variable {prog : Program} {w : World} {A : Around} {R : Result → Shared → Prop} {I : Addr} {fp wr : List Addr} {G : Array GenState → Array GenState → Prop} {n : Nat} {P : Nat → Value → Prop} {St : Nat → Shared → Prop}
/-- the loop of set.update, over texts -/
theorem loop_add (W : WalksS prog w A.in1 I fp wr G n P St) (S : Addr) (apart : S ∉ fp) (l : List Str) (items : ∀ i v, P i v → ∃ x t, v = .str x t ∧ l[i]? = some x) (few : n + 1 < scanBound) :
    ∀ (k i : Nat) (s : Shared), n - i = k → i ≤ n → St i s → SetX w s.heap S (metOf l i) →
      (∀ s', Moved (S :: wr) G s s' → SetX w s'.heap S (metOf l n) → R (.ok (.ret .none)) s') →
      codeAny (model prog w) A (.builtin "set.update.loop" ⟨[.ref S, .ref I], []⟩) R s := by
  have notw : S ∉ wr := fun z => apart (W.sub _ z)
  have wider : ∀ b ∈ wr, b ∈ S :: wr := fun b hb => List.mem_cons_of_mem _ hb
  intro k
  induction k with
  | zero =>
    intro i s hk hi st have_ hR
    obtain rfl : i = n := by omega
    refine codeAny_builtin F.entry_set_update_loop ?_
    rw [Around.under_plainId F.plain_set_update_loop _]
    show wpAny _ A.in1 (pyNext (.ref I) >>= _) _ _ s
    refine wpAny_bind (W.done s _ _ st fun s' mv => ?_)
    show wpAny _ A.in1 (ret Value.none) _ _ s'
    exact wpAny_pure (hR s' (mv.mono wider) (have_.at fun o z => mv.heap S _ notw z))
  | succ k ih =>
    intro i s hk hi st have_ hR
    have lt : i < n := by omega
    refine codeAny_builtin F.entry_set_update_loop ?_
    rw [Around.under_plainId F.plain_set_update_loop _]
    show wpAny _ A.in1 (pyNext (.ref I) >>= _) _ _ s
    refine wpAny_bind (W.item i s _ _ lt st fun v s' pv st' mv => ?_)
    obtain ⟨x, t, rfl, lx⟩ := items i v pv
    have have2 : SetX w s'.heap S (metOf l i) := have_.at fun o z => mv.heap S _ notw z
    show wpAny _ A.in1 (holding [Value.str x t] (setAdd S (.str x t)) >>= _) _ _ s'
    refine wpAny_bind (wpAny_holding ?_)
    unfold setAdd
    refine wpAny_holding ?_
    refine wpAny_bind ((strKind prog w).pyHash (k := x) (str_is x t) ?_)
    refine hashed_add (P := prog) (s := { s' with toks := s'.toks + 1 }) have2 (by have := met_len l i; omega) fun h' b sb got => ?_
    rw [← metOf_succ lx] at got
    refine wpAny_pure ⟨plainId_quiet F.plain_set_update_loop _, ih (i + 1) _ (by omega) lt (W.frame _ s' _ _ st' (Nat.le_succ _) fun c hc o e => ?_) got fun s'' mv2 fin => ?_⟩
    · rw [sb.2 c fun z : c = S => apart (z ▸ hc)]
      exact e
    · refine hR s'' (Moved.trans W.gtrans ((mv.mono wider).then_heap (Nat.le_succ _) fun c o hc e => ?_) mv2) fin
      rw [sb.2 c fun z : c = S => hc (z ▸ List.mem_cons_self)]
      exact e
end
end Qs
set_option Elab.async false
set_option linter.all false
set_option maxRecDepth 100000
set_option maxHeartbeats 6400000
/-! The call of set with a list or a tuple of texts. -/
namespace PySem
section
variable {prog : Program} {w : World} {A : Around} {E : Value → Shared → Prop} {s : Shared}
/-- an empty set, as the world orders sets -/
abbrev emptyX (w : World) : Obj := { cls := .type "set", dict := none, data := .set #[] 0 (.fresh 0 0 (!w.params.followText "set-order")) }
theorem newX (a : Value) {Q₁ : Value → Shared → Prop} (h : Q₁ (.ref s.heap.objs.size) { s with heap := s.heap.push (emptyX w) }) :
    codeAny (model prog w) A (.call (.builtin "set.__new__") ⟨[.type "set", a], []⟩) (wants Q₁ E) s := by
  refine codeAny_of_tree ?_
  show wpAny _ A.in1 (do checkBuiltinCall "set.__new__" ⟨[.type "set", a], []⟩; again (.builtin "set.__new__" ⟨[.type "set", a], []⟩)) _ _ s
  refine wpAny_bind (wpAny_of_eq (F.newCall_set_1 a) (wpAny_pure ⟨plainId_quiet F.plain_set_new _, codeAny_builtin F.entry_set_new ?_⟩))
  rw [Around.under_plainId F.plain_set_new _]
  unfold Builtin.«set.__new__» Builtin.Frozenset.newClass
  have isSub := sub_set_self
  obtain ⟨hp, gs, dr, tk, os⟩ := s
  dsimp only
  wp_walk
  refine wpAny_askSetting (wpAny_pure ?_)
  dsimp only
  simp only [newObj]
  exact wpAny_bind (wpAny_alloc (wpAny_pure (wpAny_pure h)))

set_option maxHeartbeats 6400000 in
theorem set_of_list {l : Addr} {items : Array Value} {ts : List Str} {Q : Value → Shared → Prop} (calm : A.handled = none) (hl : s.heap.IsList l items) (all : ∀ (i : Nat) (v : Value), items[i]? = some v → ∃ x t, v = Value.str x t ∧ ts[i]? = some x) (few : items.size + 1 < scanBound)
    (k : ∀ (h' : Heap) (tk : Nat), Qs.SetX w h' s.heap.objs.size (Qs.metOf ts items.size) → (∀ b o, b < s.heap.objs.size → s.heap.get? b = some o → h'.get? b = some o) → Q (.ref s.heap.objs.size) { s with heap := h', toks := tk }) :
    wpAny (model prog w) A (call (.type "set") [.ref l]) Q E s := by
  obtain ⟨c, tl, hmro⟩ := F.called_set.mro
  have hmade := F.called_set.made
  have hsub := F.called_set.sub
  refine wpAny_call (codeAny_of_tree ?_)
  show wpAny _ _ (callAny (.type "set") _) _ _ _
  refine wpAny_pure ⟨Code.quiet_builtin _ (by decide +kernel), codeAny_builtin F.entry_type_call ?_⟩
  rw [Around.under_plain (weight_type_call_type "set" [.ref l] []) rfl]
  have n1 := F.called_set.notType
  have n2 := F.called_set.canCreate
  have n3 := F.typeCall_set_1 (.ref l)
  repeat (any_goals (first | assumption | wp_step))
  refine codeAny_mono (newX (w := w) (.ref l) (E := E) (Q₁ := fun obj s₁ => obj = .ref s.heap.objs.size ∧ s₁ = { s with heap := s.heap.push (emptyX w) }) ⟨rfl, rfl⟩) fun r s₁ hr => ?_
  rcases r with e | fl
  · exact hr
  cases fl with
  | next => exact hr.elim
  | brk => exact hr.elim
  | cont => exact hr.elim
  | ret obj =>
    obtain ⟨rfl, rfl⟩ := hr
    have here : (s.heap.push (emptyX w)).get? s.heap.objs.size = some (emptyX w) := Heap.get?_push_size _ rfl
    have isT : Shared.TypeIs { s with heap := s.heap.push (emptyX w) } (.ref s.heap.objs.size) "set" := ⟨_, here, rfl⟩
    have n4 := F.called_set.init.lookup
    have n5 := F.called_set.init.bind (.ref s.heap.objs.size)
    repeat (any_goals (first | assumption | wp_step))
    refine codeAny_mono (codeAny_call_builtin (R := wants (fun r s₂ => r = .none ∧ ∃ h' tk, s₂ = { s with heap := h', toks := tk } ∧ Qs.SetX w h' s.heap.objs.size (Qs.metOf ts items.size) ∧
      (∀ b o, b < s.heap.objs.size → s.heap.get? b = some o → h'.get? b = some o)) E) F.called_set.init.plain F.entry_set_init (check_set_init_1 isT ?_)) fun r₂ s₂ hr₂ => ?_
    · obtain ⟨ol, hol, hcl, nl, hdl⟩ := hl
      obtain ⟨ocls, odict, odata, oslots⟩ := ol
      simp only at hcl hdl
      subst hcl; subst hdl
      have hol2 : (s.heap.push (emptyX w)).get? l = some { cls := .type "list", dict := odict, data := .seq items nl, slots := oslots } := Heap.get?_push_of_some _ hol
      have m1 := F.sub_list_set
      have m2 := F.sub_list_frozenset
      have m3 : (Value.type "list" == Value.type "dict") = false := by decide
      have hl1 : (s.heap.push (emptyX w)).IsList l items := ⟨_, hol2, rfl, nl, rfl⟩
      unfold Builtin.«set.__init__» noKeywords Builtin.Frozenset.updateFrom
      generalize hPI : pyIter = PI
      wp_walk
      subst hPI
      refine wpAny_pyIter_list hl1 ?_
      refine wpAny_bind (wpAny_runValue ?_)
      have lt : l < s.heap.objs.size := Heap.lt_size hol
      have calm3 : A.in1.in1.in1.handled = none := by simp [calm]
      have two : (s.heap.push (emptyX w)).objs.size = s.heap.objs.size + 1 := Heap.size_push _ _
      have neI : l ≠ (s.heap.push (emptyX w)).objs.size := by
        rw [two]
        exact Nat.ne_of_lt (Nat.lt_succ_of_lt lt)
      have apart : s.heap.objs.size ∉ [(s.heap.push (emptyX w)).objs.size, l] := by
        rw [two]
        simp only [List.mem_cons, List.not_mem_nil, or_false, not_or]
        exact ⟨Nat.ne_of_lt (Nat.lt_succ_self _), Nat.ne_of_gt lt⟩
      refine Qs.loop_add ((Walks.list calm3 _ l neI items).toS) s.heap.objs.size apart ts all few (items.size - 0) 0 _ (by omega) (Nat.zero_le _) ⟨⟨_, Heap.get?_push_size _ rfl, rfl, rfl⟩, (hl1.push _)⟩ ?_ ?_
      · exact Qs.fresh_x w (Heap.get?_push_of_some _ here)
      · rintro ⟨h', g', d', tk', os'⟩ mv fin
        obtain rfl : g' = s.gens := mv.gens
        obtain rfl : d' = s.drawn := mv.drawn
        obtain rfl : os' = s.os := mv.os
        show wpAny _ _ _ _ _ _
        refine wpAny_pure ?_
        show wpAny _ _ (ret Value.none) _ _ _
        refine wpAny_pure ⟨rfl, h', tk', rfl, fin, fun b o hb e => ?_⟩
        refine mv.heap b o ?_ (Heap.get?_push_of_some _ (Heap.get?_push_of_some _ e))
        rw [two]
        simp only [List.mem_cons, List.not_mem_nil, or_false, not_or]
        exact ⟨Nat.ne_of_lt hb, Nat.ne_of_lt (Nat.lt_succ_of_lt hb)⟩
    · rcases r₂ with e | fl₂
      · exact hr₂
      cases fl₂ with
      | next => exact hr₂.elim
      | brk => exact hr₂.elim
      | cont => exact hr₂.elim
      | ret v =>
        obtain ⟨rfl, h', tk, rfl, fin, kept⟩ := hr₂
        repeat (any_goals (first | assumption | wp_step))
        exact k _ _ fin kept

set_option maxHeartbeats 6400000 in
theorem set_of_tuple {l : Addr} {items : Array Value} {ts : List Str} {Q : Value → Shared → Prop} (calm : A.handled = none) (hl : s.heap.IsTuple l items) (all : ∀ (i : Nat) (v : Value), items[i]? = some v → ∃ x t, v = Value.str x t ∧ ts[i]? = some x) (few : items.size + 1 < scanBound)
    (k : ∀ (h' : Heap) (tk : Nat), Qs.SetX w h' s.heap.objs.size (Qs.metOf ts items.size) → (∀ b o, b < s.heap.objs.size → s.heap.get? b = some o → h'.get? b = some o) → Q (.ref s.heap.objs.size) { s with heap := h', toks := tk }) :
    wpAny (model prog w) A (call (.type "set") [.ref l]) Q E s := by
  obtain ⟨c, tl, hmro⟩ := F.called_set.mro
  have hmade := F.called_set.made
  have hsub := F.called_set.sub
  refine wpAny_call (codeAny_of_tree ?_)
  show wpAny _ _ (callAny (.type "set") _) _ _ _
  refine wpAny_pure ⟨Code.quiet_builtin _ (by decide +kernel), codeAny_builtin F.entry_type_call ?_⟩
  rw [Around.under_plain (weight_type_call_type "set" [.ref l] []) rfl]
  have n1 := F.called_set.notType
  have n2 := F.called_set.canCreate
  have n3 := F.typeCall_set_1 (.ref l)
  repeat (any_goals (first | assumption | wp_step))
  refine codeAny_mono (newX (w := w) (.ref l) (E := E) (Q₁ := fun obj s₁ => obj = .ref s.heap.objs.size ∧ s₁ = { s with heap := s.heap.push (emptyX w) }) ⟨rfl, rfl⟩) fun r s₁ hr => ?_
  rcases r with e | fl
  · exact hr
  cases fl with
  | next => exact hr.elim
  | brk => exact hr.elim
  | cont => exact hr.elim
  | ret obj =>
    obtain ⟨rfl, rfl⟩ := hr
    have here : (s.heap.push (emptyX w)).get? s.heap.objs.size = some (emptyX w) := Heap.get?_push_size _ rfl
    have isT : Shared.TypeIs { s with heap := s.heap.push (emptyX w) } (.ref s.heap.objs.size) "set" := ⟨_, here, rfl⟩
    have n4 := F.called_set.init.lookup
    have n5 := F.called_set.init.bind (.ref s.heap.objs.size)
    repeat (any_goals (first | assumption | wp_step))
    refine codeAny_mono (codeAny_call_builtin (R := wants (fun r s₂ => r = .none ∧ ∃ h' tk, s₂ = { s with heap := h', toks := tk } ∧ Qs.SetX w h' s.heap.objs.size (Qs.metOf ts items.size) ∧
      (∀ b o, b < s.heap.objs.size → s.heap.get? b = some o → h'.get? b = some o)) E) F.called_set.init.plain F.entry_set_init (check_set_init_1 isT ?_)) fun r₂ s₂ hr₂ => ?_
    · obtain ⟨ol, hol, hcl, nl, hdl⟩ := hl
      obtain ⟨ocls, odict, odata, oslots⟩ := ol
      simp only at hcl hdl
      subst hcl; subst hdl
      have hol2 : (s.heap.push (emptyX w)).get? l = some { cls := .type "tuple", dict := odict, data := .seq items nl, slots := oslots } := Heap.get?_push_of_some _ hol
      have m1 := F.sub_tuple_set
      have m2 := F.sub_tuple_frozenset
      have m3 : (Value.type "tuple" == Value.type "dict") = false := by decide
      have hl1 : (s.heap.push (emptyX w)).IsTuple l items := ⟨_, hol2, rfl, nl, rfl⟩
      unfold Builtin.«set.__init__» noKeywords Builtin.Frozenset.updateFrom
      generalize hPI : pyIter = PI
      wp_walk
      subst hPI
      refine wpAny_pyIter_tuple hl1 ?_
      refine wpAny_bind (wpAny_runValue ?_)
      have lt : l < s.heap.objs.size := Heap.lt_size hol
      have calm3 : A.in1.in1.in1.handled = none := by simp [calm]
      have two : (s.heap.push (emptyX w)).objs.size = s.heap.objs.size + 1 := Heap.size_push _ _
      have neI : l ≠ (s.heap.push (emptyX w)).objs.size := by
        rw [two]
        exact Nat.ne_of_lt (Nat.lt_succ_of_lt lt)
      have apart : s.heap.objs.size ∉ [(s.heap.push (emptyX w)).objs.size, l] := by
        rw [two]
        simp only [List.mem_cons, List.not_mem_nil, or_false, not_or]
        exact ⟨Nat.ne_of_lt (Nat.lt_succ_self _), Nat.ne_of_gt lt⟩
      refine Qs.loop_add ((Walks.tuple calm3 _ l neI items).toS) s.heap.objs.size apart ts all few (items.size - 0) 0 _ (by omega) (Nat.zero_le _) ⟨⟨_, Heap.get?_push_size _ rfl, rfl, rfl⟩, (hl1.push _)⟩ ?_ ?_
      · exact Qs.fresh_x w (Heap.get?_push_of_some _ here)
      · rintro ⟨h', g', d', tk', os'⟩ mv fin
        obtain rfl : g' = s.gens := mv.gens
        obtain rfl : d' = s.drawn := mv.drawn
        obtain rfl : os' = s.os := mv.os
        show wpAny _ _ _ _ _ _
        refine wpAny_pure ?_
        show wpAny _ _ (ret Value.none) _ _ _
        refine wpAny_pure ⟨rfl, h', tk', rfl, fin, fun b o hb e => ?_⟩
        refine mv.heap b o ?_ (Heap.get?_push_of_some _ (Heap.get?_push_of_some _ e))
        rw [two]
        simp only [List.mem_cons, List.not_mem_nil, or_false, not_or]
        exact ⟨Nat.ne_of_lt hb, Nat.ne_of_lt (Nat.lt_succ_of_lt hb)⟩
    · rcases r₂ with e | fl₂
      · exact hr₂
      cases fl₂ with
      | next => exact hr₂.elim
      | brk => exact hr₂.elim
      | cont => exact hr₂.elim
      | ret v =>
        obtain ⟨rfl, h', tk, rfl, fin, kept⟩ := hr₂
        repeat (any_goals (first | assumption | wp_step))
        exact k _ _ fin kept
end
end PySem
set_option Elab.async false
set_option linter.all false
set_option maxRecDepth 100000
set_option maxHeartbeats 4000000
/-! sorted(a set of texts); the rules. -/
namespace Qs
open PySem PySem.Spec PyProof.Rows L2
section
variable {P : Program} {w : World} {A : Around} {E : Value → Shared → Prop} {s : Shared} {a : Addr} {ks : List Str}
theorem sorted_x {Q : Value → Shared → Prop} (R : SetX w s.heap a ks) (calm : A.handled = none) (few : ks.length < 64)
    (hQ : ∀ s' p (out : Array Value) (c : Nat) (ss : List Str), (∀ b o, s.heap.get? b = some o → s'.heap.get? b = some o) → s'.gens = s.gens → s'.os = s.os → s.heap.objs.size ≤ p →
      s'.heap.get? p = some (seqObj "list" out c) → StrsAre out.toList ss → ss.Perm ks → sortedS ss = true → Q (.ref p) s') :
    wpAny (model P w) A (call (.builtin "sorted") [.ref a]) Q E s := by
  obtain ⟨o, es, ep, t, hob, exact_, hdt, gd, pm, nd, fewS, fit, rise, led⟩ := R
  refine Calls.call_function_entry kind_sorted plain_sorted entry_sorted (args_sorted1 _) ?_
  unfold Builtin.«sorted»
  refine wpAny_bind (m := checkCount "sorted" 1 1 _) (wpAny_pure ?_)
  refine wpAny_bind (collect_set (A := A.in1) calm ⟨o, hob, exact_.1, hdt⟩ fit fewS rise led fun s1 vs kept grew same_g same_o pmv => ?_)
  have pmk : (vs.map strOf).Perm ks := by
    have q := pmv.map strOf
    rw [List.map_map] at q
    have e : es.toList.map (strOf ∘ fun x => x.2) = es.toList.map keyX := List.map_congr_left fun e he => by
      obtain ⟨x, tk, e1, _⟩ := gd e he
      show strOf e.2 = keyX e
      unfold keyX
      rw [e1]
      rfl
    rw [e] at q
    exact q.trans pm
  have hvl : vs.length = ks.length := by rw [← pmk.length_eq, List.length_map]
  have areS : StrsAre vs (vs.map strOf) := strsAre_map vs fun v hv => by
    obtain ⟨e, he, q⟩ := List.mem_map.mp (pmv.mem_iff.mp hv)
    obtain ⟨x, tk, e1, _⟩ := gd e he
    exact ⟨x, tk, by rw [← q]; exact e1⟩
  refine wpAny_bind (wpAny_newList ?_ (by rw [hvl, sizeLine_eq]; omega))
  have hoL : (s1.heap.push (seqObj "list" vs.toArray 0)).get? s1.heap.objs.size = some (seqObj "list" vs.toArray 0) := Heap.get?_push_size _ rfl
  refine wpAny_bind (wpAny_holding (wpAny_call_entry slot_list_sort ⟨_, hoL, rfl⟩ entry_list_sort (list_sort_treeK strKind_oneLt hoL areS.keysOf (fun v₁ v₂ rest e => keyKind_strs (by rw [← e]; exact areS)) (by rw [hvl]; exact few) fun st' hp hs => ⟨_, rfl, ?_⟩) (args_list_sort _)))
  obtain ⟨ss, g1, g2, g3⟩ := sorted_out_str areS hp hs
  obtain ⟨c, hc⟩ := sortedHeap_at (vs := vs) (out := (arrOf st').map (·.2)) hoL
  refine wpAny_pure ⟨_, rfl, hQ _ s1.heap.objs.size _ c ss (fun b u e => ?_) same_g same_o grew hc g1 (g2.trans pmk) g3⟩
  have q := kept b u e
  have lt := Heap.lt_size q
  show (sortedHeap (s1.heap.push (seqObj "list" vs.toArray 0)) s1.heap.objs.size vs ((arrOf st').map (·.2))).get? b = some u
  rw [sortedHeap_old (Nat.ne_of_lt lt) (by rw [size_push']; exact Nat.lt_succ_of_lt lt)]
  exact Heap.get?_push_of_some _ q
end
/-- a set of texts, as the layer tells it -/
def SetXO (w : World) (a : Addr) (ks : List Str) : HO := .ext fun h => SetX w h a ks
theorem setXO_ok {P : Program} {w : World} {H : Hp} {h : Heap} {a : Addr} {ks : List Str} (R : SetX w h a ks) : ObjOk P w H h a (SetXO w a ks) := by
  refine ⟨R, ?_, fun h1 h2 z k => SetX.at z k⟩
  obtain ⟨o, _, _, _, hob, _⟩ := R
  exact ⟨o, hob⟩
theorem valsX : ∀ {ts : List Str} {us : List Value}, Vals (ts.map V.str) us → us.length = ts.length ∧ ∀ (i : Nat) (v : Value), us[i]? = some v → ∃ x t, v = Value.str x t ∧ ts[i]? = some x
  | [], _, r => by
    cases r
    exact ⟨rfl, fun i v h => by simp at h⟩
  | x :: ts, _, r => by
    cases r with
    | cons h r =>
      obtain ⟨t, rfl⟩ := h
      obtain ⟨l, q⟩ := valsX r
      refine ⟨by rw [List.length_cons, List.length_cons, l], fun i v hv => ?_⟩
      cases i with
      | zero =>
        simp at hv
        exact ⟨x, t, hv.symm, by simp⟩
      | succ i => exact q i v (by simpa using hv)
theorem xVals : ∀ {ss : List Str} {us : List Value}, StrsAre us ss → Vals (ss.map V.str) us
  | _, _, .nil => .nil
  | _, _, .cons x t r => .cons ⟨t, rfl⟩ (xVals r)
section
variable {X : Cx}
/-- set(a list or tuple of texts) -/
def rSetX (K : PySem.W.Frag) (w : World) : List V → Hp → VK → Prop := fun xs G Q => ∃ (l : Addr) (ts : List Str), xs = [.ref l] ∧ (SqL K G l (ts.map V.str) ∨ SqT K G l (ts.map V.str)) ∧ ts.length + 1 < scanBound ∧
  ∀ a G', G a = none → Same G G' → G' a = some (SetXO w a (metOf ts ts.length)) → Q (.ref a) G'
theorem call_setX (hc : X.calm = true) : CallR X (.type "set") (rSetX X.K X.w) := by
  rintro pins s σ G xs us Q I r ⟨l, ts, rfl, hs, few, q⟩
  obtain ⟨u, rfl, ru⟩ := vals1 r
  obtain rfl : u = Value.ref l := ru
  have fin : ∀ (n : Nat), n = ts.length → ∀ (h' : Heap) (tk : Nat), SetX X.w h' s.heap.objs.size (metOf ts n) → (∀ b o, b < s.heap.objs.size → s.heap.get? b = some o → h'.get? b = some o) →
      EP X pins σ Q (.ref s.heap.objs.size) { s with heap := h', toks := tk } := fun n hn h' tk got kept => by
    subst hn
    have J := I.laid (t' := tk) (fun b u e => kept b u (Heap.lt_size e) e) (Nat.le_refl _) (setXO_ok got)
    exact ⟨.ref s.heap.objs.size, _, J, rfl, q _ _ I.fresh (Qh.Same.new I.fresh) upd_same⟩
  rcases hs with hs | hs
  · obtain ⟨its, rv, ⟨o, n, e1, e2, e3, e4⟩, _⟩ := I.list hs
    obtain ⟨len, all⟩ := valsX rv
    have hz : its.toArray.size = ts.length := by rw [List.size_toArray, len]
    exact set_of_list (ts := ts) (I.ok.hd hc) ⟨o, e1, e2, n, e4⟩ (fun i v h => all i v (by simpa using h)) (by rw [hz]; exact few) fun h' tk got kept => fin _ hz h' tk got kept
  · obtain ⟨its, rv, ⟨o, e1, e2, n, e4⟩, _⟩ := I.tuple hs
    obtain ⟨len, all⟩ := valsX rv
    have hz : its.toArray.size = ts.length := by rw [List.size_toArray, len]
    exact set_of_tuple (ts := ts) (I.ok.hd hc) ⟨o, e1, e2, n, e4⟩ (fun i v h => all i v (by simpa using h)) (by rw [hz]; exact few) fun h' tk got kept => fin _ hz h' tk got kept
/-- sorted(a set of texts) -/
def rSortX (w : World) : List V → Hp → VK → Prop := fun xs G Q => ∃ (a : Addr) (ks : List Str), xs = [.ref a] ∧ G a = some (SetXO w a ks) ∧ ks.length < 64 ∧
  ∀ (ss : List Str) p G', ss.Perm ks → sortedS ss = true → G p = none → Same G G' → G' p = some (.lst (ss.map V.str)) → Q (.ref p) G'
theorem call_sortX (hc : X.calm = true) : CallR X (.builtin "sorted") (rSortX X.w) := by
  rintro pins s σ G xs us Q I r ⟨a, ks, rfl, ha, few, q⟩
  obtain ⟨u, rfl, ru⟩ := vals1 r
  obtain rfl : u = Value.ref a := ru
  obtain ⟨R, _, _⟩ := I.hok a _ ha
  refine sorted_x R (I.ok.hd hc) few ?_
  intro s' p out c ss kept eg eo hp here areS pm so
  have free : G p = none := I.hok.fresh hp
  have J : Inv X pins σ (upd G p (.lst (ss.map V.str))) s' := I.call' (ch := []) eo (Un.laid kept hp free)
    (I.hok.laid kept hp ⟨by rw [List.length_map, pm.length_eq, sizeLine_eq]; omega, out.toList, c, xVals areS, by rw [Array.toArray_toList]; exact here⟩) (by rw [eg]; exact I.bare) (fun _ z => nomatch z)
  exact ⟨.ref p, _, J, rfl, q ss p _ pm so free (Qh.Same.new free) upd_same⟩
end
end Qs
set_option Elab.async false
set_option linter.all false
set_option maxRecDepth 100000
set_option maxHeartbeats 4000000
/-! Just one row of texts is sorted; ascending(values). -/
namespace Qs
open PySem PySem.Spec PyProof.Rows L2
def leX (a b : Str) : Prop := a.cps.toList ≤ b.cps.toList
theorem leX_of {a b : Str} (h : ltCps b.cps.toList a.cps.toList = false) : leX a b := by
  rw [ltCps_eq] at h
  exact List.not_lt.mp (of_decide_eq_false h)
theorem leX_trans {a b c : Str} (h : leX a b) (k : leX b c) : leX a c := List.le_trans h k
theorem leX_anti {a b : Str} (h : leX a b) (k : leX b a) : a = b := by
  have e : a.cps.toList = b.cps.toList := List.le_antisymm h k
  obtain ⟨x⟩ := a
  obtain ⟨y⟩ := b
  have e : x = y := Array.toList_inj.mp e
  rw [e]
theorem rising_pw : ∀ (r : List Str) (p : Str), risingS p r = true → (∀ y ∈ r, leX p y) ∧ r.Pairwise leX
  | [], p, _ => ⟨(fun y h => nomatch h), List.Pairwise.nil⟩
  | x :: r, p, h => by
    have h : (!ltCps x.cps.toList p.cps.toList && risingS x r) = true := h
    obtain ⟨h1, h2⟩ := Bool.and_eq_true_iff.mp h
    obtain ⟨ih1, ih2⟩ := rising_pw r x h2
    have px : leX p x := leX_of (by simpa using h1)
    refine ⟨fun y hy => ?_, List.pairwise_cons.mpr ⟨ih1, ih2⟩⟩
    rcases List.mem_cons.mp hy with rfl | hy
    · exact px
    · exact leX_trans px (ih1 y hy)
theorem sorted_pw : ∀ {l : List Str}, sortedS l = true → l.Pairwise leX
  | [], _ => List.Pairwise.nil
  | x :: r, h => by
    obtain ⟨h1, h2⟩ := rising_pw r x h
    exact List.pairwise_cons.mpr ⟨h1, h2⟩
/-- texts that are the same but for their order have one sorted row -/
theorem sorted_one {ss tt : List Str} (p : ss.Perm tt) (h : sortedS ss = true) (k : sortedS tt = true) : ss = tt :=
  List.Perm.eq_of_pairwise (fun a b _ _ h k => leX_anti h k) (sorted_pw h) (sorted_pw k) p
theorem more_nodup {ks : List Str} {x : Str} (h : ks.Nodup) : (more ks x).Nodup := by
  unfold more
  split
  · exact h
  · rename_i n
    exact List.nodup_cons.mpr ⟨n, h⟩
theorem fold_nodup : ∀ (l : List Str) {ks : List Str}, ks.Nodup → (l.foldl more ks).Nodup
  | [], _, h => h
  | x :: l, _, h => fold_nodup l (more_nodup h)
theorem met_nodup (l : List Str) : (metOf l l.length).Nodup := fold_nodup _ List.nodup_nil
/-- rows with the same texts have one set -/
theorem met_perm {l m : List Str} (h : ∀ y, y ∈ l ↔ y ∈ m) : (metOf l l.length).Perm (metOf m m.length) :=
  (List.perm_ext_iff_of_nodup (met_nodup l) (met_nodup m)).mpr fun y => by rw [met_mem, met_mem, h y]
/-- ss is the ascending row of the texts ts -/
def Asc (ts ss : List Str) : Prop := ss.Perm (metOf ts ts.length) ∧ sortedS ss = true
theorem asc_one {ts us ss tt : List Str} (h : Asc ts ss) (k : Asc us tt) (e : ∀ y, y ∈ ts ↔ y ∈ us) : ss = tt :=
  sorted_one ((h.1.trans (met_perm e)).trans k.1.symm) h.2 k.2
theorem asc_mem {ts ss : List Str} (h : Asc ts ss) (y : Str) : y ∈ ss ↔ y ∈ ts := by rw [h.1.mem_iff, met_mem]
/-- ascending(values): the tuple -/
def spAsc (K : PySem.W.Frag) : Sp := fun vs G Q _ => ∃ (l : Addr) (ts : List Str), vs = [.ref l] ∧ (SqL K G l (ts.map V.str) ∨ SqT K G l (ts.map V.str)) ∧ ts.length < 64 ∧
  ∀ (ss : List Str) p G', Asc ts ss → G p = none → Same G G' → G' p = some (.tup (ss.map V.str)) → Q (.ref p) G'
end Qs
set_option Elab.async false
set_option linter.all false
set_option maxRecDepth 100000
set_option maxHeartbeats 4000000
/-! Own errors as plain values: any built-in base, values by position or by name. -/
namespace Qv
open PySem PySem.HandSPX
section
variable {M : Model} {A : Around} {E : Value → Shared → Prop} {h : Heap} {g : Array GenState} {d : Drawn} {t : Nat} {os : OsState} {prog : Program} {w : World} {R : Result → Shared → Prop}
variable {nm q : Str} {C N : Addr} {bs bm bmB : List Value} {hdct : Bool} {sn : List Str} {sub : List Value} {ab : Bool} {col : Option Bool} {dd : Option Addr} {k0 k1 k2 k3 k5 : Option Value} {B newId initId : String} {rest : List Value} {kw : List (Str × Value)}

/-- what new asks of the bases -/
def basesOk (B : String) (bm : List Value) : Bool := bm.contains (.type B) && (!bm.contains (.type "AttributeError") && !bm.contains (.type "NameError"))
end
section
open PySem.W Builtin Builtin.ObjectAttr
variable {prog : Program} {w : World} {A : Around} {R : Result → Shared → Prop} {K : W.Frag} {hp : Heap} {g : Array GenState} {d : Drawn} {t : Nat} {os : OsState} {name : Str} {tk : Tok} {v : Value} {x C : Addr} {fv : Array Value} {cd : ClassData} {B : String} {bmB : List Value}
end
end Qv
set_option Elab.async false
set_option linter.all false
set_option maxRecDepth 100000
/-! KeyError's own store of a field. -/
namespace Qv
open PySem PySem.F
end Qv
set_option Elab.async false
set_option linter.all false
set_option maxRecDepth 100000
set_option maxHeartbeats 4000000
/-! Own errors as plain values, in the layer of readings. -/
namespace Qv
open PySem PySem.Spec PyProof.Rows L2 Qh
/-- what the top says of an own error class, whatever its built-in base -/
structure OexG (K : PySem.W.Frag) (C : Addr) : Prop where
  cls : ∃ (B newId initId Bs : String) (bmN bmB : List Value) (nm q : Str) (N : Addr) (bs bm : List Value) (sn : List Str) (sub : List Value) (ab : Bool) (col : Option Bool) (dd : Option Addr) (k0 k1 k2 k3 k5 : Option Value),
    K.lookup C = some (excClassObj nm q C N bs bm true sn sub ab col dd k0 k1 k2 k3 k5 newId) ∧ basesOk B bm = true ∧ ExcBaseFacts B newId initId bmN ∧ StoreFacts Bs bmB "object.__setattr__" "object"  ∧ PySem.W.excOver K C bmB = true
  sa : PySem.W.findIn K (.ref C) "__setattr__" = some (some (.builtin "object.__setattr__"))
  kC : PySem.W.keepIn K (.ref C) = true
/-- the error of the class C at a, with these fields -/
def ErrAt (G : Hp) (a C : Addr) (fs : List (Str × V)) : Prop := ∃ d, G a = some (exo a C (some d)) ∧ G d = some (exd d fs)
theorem ErrAt.same {G G' : Hp} {a C : Addr} {fs : List (Str × V)} (e : ErrAt G a C fs) (s : Same G G') : ErrAt G' a C fs := by
  obtain ⟨d, h1, h2⟩ := e
  exact ⟨d, s _ _ h1, s _ _ h2⟩
/-- C.__init__(self, f, ..): self.f = f, .. -/
def spErrG (C : Addr) (fields : List Str) : Sp := fun vs G Q _ => ∃ (a : Addr) (ws : List V), vs = .ref a :: ws ∧ ws.length = fields.length ∧ G a = some (exo a C none) ∧
  ∀ d, G d = none → d ≠ a → Q .non (upd (upd G d (exd d (fields.zip ws).reverse)) a (exo a C (some d)))
section
variable {X : Cx} {pins : List (Addr × Obj)} {σ : L2.St} {H : Hp} {s : Shared} {a C dx : Addr} {f : Str} {y : V} {u : Value} {fs : List (Str × V)} {Q : Unit → Shared → Prop} {E : Value → Shared → Prop} {A : Around}
theorem OexG.data {K : PySem.W.Frag} {C : Addr} (T : OexG K C) : ∃ (B newId initId Bs : String) (bmN bmB : List Value) (nm q : Str) (N : Addr) (bs bm : List Value) (sn : List Str) (sub : List Value) (ab : Bool) (col : Option Bool) (dd : Option Addr) (k0 k1 k2 k3 k5 : Option Value) (cd : ClassData),
    K.lookup C = some (excClassObj nm q C N bs bm true sn sub ab col dd k0 k1 k2 k3 k5 newId) ∧ basesOk B bm = true ∧ ExcBaseFacts B newId initId bmN ∧ StoreFacts Bs bmB "object.__setattr__" "object" ∧ PySem.W.excOver K C bmB = true ∧ PySem.W.clsIn K C = some cd ∧ cd.hasDict = true := by
  obtain ⟨B, newId, initId, Bs, bmN, bmB, nm, q, N, bs, bm, sn, sub, ab, col, dd, k0, k1, k2, k3, k5, h1, h2, h3, h4, h5⟩ := T.cls
  exact ⟨B, newId, initId, Bs, bmN, bmB, nm, q, N, bs, bm, sn, sub, ab, col, dd, k0, k1, k2, k3, k5, { name := nm, bases := bs, mro := .ref C :: bm, ns := N, qualname := q, hasDict := true, slotNames := sn, subclasses := sub, abstract := ab, collection := col, hasDel := false },
    h1, h2, h3, h4, h5, by unfold PySem.W.clsIn; rw [h1] <;> rfl, rfl⟩
end
section
variable {X : Cx} {o e : Expr} {es : List Expr} {kws : List Keyword} {to te : TE} {ta : TA} {f x : Str} {p p' pos : Pos} {C : Addr} {fields : List Str}
end
end Qv
set_option Elab.async false
set_option linter.all false
set_option maxRecDepth 100000
set_option maxHeartbeats 4000000
/-! Own errors as plain values: made, read, told apart. -/
namespace Qv
open PySem PySem.Spec PyProof.Rows L2 Qh
/-- an own error class with this __init__ -/
structure ErrK (P : Program) (w : World) (K : PySem.W.Frag) (mg : Str → Option Value) (base : Heap) (x qn : Str) (pa : Arguments) (fields : List Str) (C : Addr) : Prop where
  g : mg x = some (.ref C)
  o : OexG K C
  xf : XfC K C
  ec : ExcC K C
  no : ∀ f ∈ fields, PySem.W.findIn K (.ref C) f = some none
  init : ∃ (fI : Addr) (body : List Stmt) (scope : Scope) (kV doc pm : Value) (an : Option Addr) (cdv ct : Value), PySem.W.findIn K (.ref C) "__init__" = some (some (.ref fI)) ∧ PySem.W.typeIn K (.ref fI) = some (.type "function") ∧
    (∀ us : List Value, us.length = fields.length + 1 → bindArgs (PySem.W.fnOf "__init__" qn pa body scope .none kV doc pm an cdv ct) ⟨us, []⟩ = pure ((("self" : Str) :: fields).zip us)) ∧
    FnOk P w K mg base (L2.CX P w) 1 fI (PySem.W.fnOf "__init__" qn pa body scope .none kV doc pm an cdv ct) (("self" : Str) :: fields) (spErrG C fields)
section
variable {X : Cx} {pins : List (Addr × Obj)} {σ : L2.St} {H1 : Hp} {s : Shared} {C fI : Addr} {fd : FuncData} {ps : List Str} {sp : Sp} {rest us : List Value} {kw : List (Str × Value)} {vs : List V} {Q : VK}
end
section
variable {X : Cx} {o e : Expr} {es : List Expr} {kws : List Keyword} {to te : TE} {ta : TA} {f x qn : Str} {pa : Arguments} {p pos : Pos} {C : Addr} {fields : List Str}
end
end Qv
set_option Elab.async false
set_option linter.all false
set_option maxRecDepth 100000
set_option maxHeartbeats 4000000
/-! Instances made where errors are wished for at the caller's slots; ascending(values). -/
namespace Qi
open PySem PySem.Spec PyProof.Rows L2 Qh
/-- C(e, ..), by a positional promise of its __init__ -/
def tMakeS (C : Addr) (sp : Sp) (E : L2.St → XK) (t : TA) : TE := fun σ H Q => t σ H fun vs H1 => ∀ x dx, H1 x = Option.none → H1 dx = Option.none → dx ≠ x →
  sp (V.ref x :: vs) (upd (upd H1 dx (.own x)) x (.ins C dx [])) (fun v H2 => v = .non ∧ Q (.ref x) H2) (E σ)
section
variable {X : Cx} {W : WX} {k : Nat} {f C : Addr} {sp : Sp} {x : Str} {e : Expr} {es : List Expr} {t : TA} {p pos : Pos}
theorem run_makeS {E : XK} {pins : List (Addr × Obj)} {σ : L2.St} {H : Hp} {s : Shared} {Q : VK} {us : List Value} {vs : List V} (M : Mk X.K C f) (F : FnR X.prog X.w X.K X.mg X.base (L2.CX X.prog X.w) k f sp) (hr : Room (k + 1) X.A)
    (hx : ∀ (H2 : Hp) (s2 : Shared) (er : Value) (s' : Shared), Inv X pins σ H2 s2 → L2.CX X.prog X.w X.stack H2 s2 E er s' → X.xe er s') (I : Inv X pins σ H s) (r : Vals vs us)
    (h : ∀ x dx, H x = Option.none → H dx = Option.none → dx ≠ x → sp (V.ref x :: vs) (upd (upd H dx (.own x)) x (.ins C dx [])) (fun v H2 => v = .non ∧ Q (.ref x) H2) E) :
    wpAny (model X.prog X.w) X.A (call (.ref C) us) (EP X pins σ Q) X.xe s := by
  have want := h (s.heap.objs.size + 1) s.heap.objs.size (I.hok.fresh (Nat.le_succ _)) (I.hok.fresh (Nat.le_refl _)) (Nat.ne_of_lt (Nat.lt_succ_self _))
  have J := Inv.made (C := C) I
  have rr : Vals (V.ref (s.heap.objs.size + 1) :: vs) (Value.ref (s.heap.objs.size + 1) :: us) := .cons rfl r
  refine wpAny_call (make_map (f := f) I.kIn M.makes M.init (beq_iff_eq.mp M.fn) (codeAny_mono (F _ X.stack _ _ (Value.ref (s.heap.objs.size + 1) :: us) _ _ E (hr.make C us []) (J.env0.make C us []) rr want) ?_))
  rintro (er | fl) s' hq
  · exact hx _ _ er s' J hq
  · cases fl with
    | next => exact hq.elim
    | brk => exact hq.elim
    | cont => exact hq.elim
    | ret u =>
      obtain ⟨v, H2, J2, rv, ev, q⟩ := J.after hq
      subst ev
      exact ⟨rv, .ref (s.heap.objs.size + 1), H2, J2, rfl, q⟩
theorem pe_makeS (M : Mk X.K C f) (F : FnR X.prog X.w X.K X.mg X.base (L2.CX X.prog X.w) k f sp) (hr : Room (k + 1) X.A) (tk : Takes X W) (hm : X.mg x = some (.ref C)) (ha : PA X (e :: es) t) (hg : Gl X x := by rfl) (hdb : (x == ("__debug__" : Str)) = false := by decide)
    (he : starEach (e :: es) X.env = (false, eval e X.env) :: starEach es X.env := by rfl) (hpl : (backTo pos (starEach es X.env)).any (·.1) = false := by rfl) : PE X (.Call (.Name x p) (e :: es) [] pos) (tMakeS C sp (WE W) t) := by
  constructor
  intro pins s σ H Q I h
  refine wpAny_Call_Name_kw (ld_glob I hg hm ?_ hdb)
  refine PySem.W.callWith_K (h₀ := X.base) I.ok.mod.kin M.kp (thn (ha.run pos pins s σ H _ I h) ?_) he hpl
  rintro us s1 ⟨vs, H1, I1, r, q⟩
  exact ⟨I1.kIn, run_makeS M F hr (fun H2 s2 er s' J c => passAt tk σ pins H2 s2 er s' J c) I1 r q⟩
/-- C() -/
theorem pe_makeS0 (M : Mk X.K C f) (F : FnR X.prog X.w X.K X.mg X.base (L2.CX X.prog X.w) k f sp) (hr : Room (k + 1) X.A) (tk : Takes X W) (hm : X.mg x = some (.ref C)) (hg : Gl X x := by rfl) (hdb : (x == ("__debug__" : Str)) = false := by decide) :
    PE X (.Call (.Name x p) [] [] pos) (tMakeS C sp (WE W) tNil) := by
  constructor
  intro pins s σ H Q I h
  refine wpAny_Call_Name_kw (ld_glob I hg hm ?_ hdb)
  refine PySem.W.callWith_K0 I.kIn M.kp ?_
  exact run_makeS M F hr (fun H2 s2 er s' J c => passAt tk σ pins H2 s2 er s' J c) I .nil h
end
/-- ascending(values): the tuple of the texts in order, each once -/
def spAsc (K : PySem.W.Frag) : Sp := fun vs G Q _ => ∃ (l : Addr) (ts : List Str), vs = [.ref l] ∧ (SqL K G l (ts.map V.str) ∨ SqT K G l (ts.map V.str)) ∧ ts.length < 64 ∧
  ∀ (ss : List Str) p G', Qs.Asc ts ss → G p = none → Same G G' → G' p = some (.tup (ss.map V.str)) → Q (.ref p) G'
theorem asc_read {K : PySem.W.Frag} {w : World} {G : Hp} {Q : VK} {l : Addr} {ts : List Str} (hs : SqL K G l (ts.map V.str) ∨ SqT K G l (ts.map V.str)) (few : ts.length < 64)
    (k : ∀ (ss : List Str) p G', Qs.Asc ts ss → G p = none → Same G G' → G' p = some (.tup (ss.map V.str)) → Q (.ref p) G') :
    Qs.rSetX K w [.ref l] G fun v1 G1 => Qs.rSortX w [v1] G1 fun v2 G2 => nTuple K [v2] G2 Q := by
  refine ⟨l, ts, rfl, hs, by unfold scanBound; omega, fun a G1 n1 s1 l1 => ?_⟩
  have len := Qs.met_len ts ts.length
  refine ⟨a, _, rfl, l1, by omega, fun ss b G2 pm so n2 s2 l2 => ?_⟩
  refine ⟨b, _, rfl, SqL.of l2, fun c G3 n3 s3 l3 => ?_⟩
  exact k ss c G3 ⟨pm, so⟩ ((s1.trans s2).free n3) ((s1.trans s2).trans s3) l3
end Qi
set_option Elab.async false
set_option linter.all false
set_option maxRecDepth 100000
set_option maxHeartbeats 4000000
/-! def f(a, .., *v, k): called with values and k = value; instances made so; own errors with several fields, raised. -/
namespace Qi
open PySem PySem.Spec PyProof.Rows L2 Qh StX
section
variable {CX : CXT} {P : Program} {w : World} {K : PySem.W.Frag} {mg : Str → Option Value} {base : Heap} {k : Nat} {f : Addr} {name qual : Str} {params : Arguments} {body : List Stmt} {scope : Scope} {dV kV doc pm cdv ct oc : Value} {an od : Option Addr}
  {osl : Array (Option Value)} {N ps : List Str} {sp : Sp}
end
section
variable {X : Cx} {W : WX} {k : Nat} {f C : Addr} {sp : Sp} {x pk : Str} {e : Expr} {es : List Expr} {kws : List Keyword} {t tkw : TA} {p pos : Pos}
end
/-! ### own errors with several fields, raised -/
structure ErrN (P : Program) (w : World) (K : PySem.W.Frag) (mg : Str → Option Value) (base : Heap) (x : Str) (fields : List Str) (C : Addr) : Prop where
  c : ErrC K mg x C
  no : ∀ f ∈ fields, PySem.W.findIn K (.ref C) f = some none
  init : ∃ (fI : Addr) (fd : FuncData), PySem.W.findIn K (.ref C) "__init__" = some (some (.ref fI)) ∧ PySem.W.typeIn K (.ref fI) = some (.type "function") ∧ Binds K fd (("self" : Str) :: fields) [] ∧
    FnOk P w K mg base (L2.CX P w) 1 fI fd (("self" : Str) :: fields) (Qv.spErrG C fields)
section
variable {X : Cx} {x : Str} {C : Addr} {fields : List Str} {e : Expr} {es : List Expr} {t : TA} {p pos : Pos}
theorem pmk_errN (T : ErrN X.prog X.w X.K X.mg X.base x fields C) (hr : Room 2 X.A) (ha : PA X (e :: es) t) (hg : Gl X x := by rfl) (hdb : (x == ("__debug__" : Str)) = false := by decide)
    (hs : starEach (e :: es) X.env = (false, eval e X.env) :: starEach es X.env := by rfl) (hpl : (backTo pos (starEach es X.env)).any (·.1) = false := by rfl) :
    PMk X (.Call (.Name x p) (e :: es) [] pos) (tMkO C (Qv.spErrG C fields) [] t) := by
  obtain ⟨fI, fd, iC, tI, hb, F⟩ := T.init
  exact pmk_oex (p := p) (pos := pos) T.c.o iC tI F hr hb .nil passL hg T.c.g ha hdb hs hpl
end
/-- .. what its reading ends in -/
theorem errN_end {fields : List Str} {C : Addr} {ws : List V} {G1 : Hp} {Q : XK} (hl : ws.length = fields.length) (few : ws.length ≤ 1000) (q : ∀ d, G1 d = none → Q (.ref C) (some d) (upd G1 d (.xd (fields.zip ws).reverse))) :
    ws.length ≤ 1000 ∧ ∀ a, G1 a = none → Qv.spErrG C fields (.ref a :: (ws ++ [])) (upd G1 a (exo a C none))
      (fun v H2 => v = .non ∧ ∃ (d : Addr) (fs : List (Str × V)), H2 a = some (exo a C (some d)) ∧ H2 d = some (exd d fs) ∧ G1 d = none ∧ Q (.ref C) (some d) (upd (del H2 a) d (.xd fs))) (fun _ _ _ => False) := by
  refine ⟨few, fun a ha => ⟨a, ws, by rw [List.append_nil], hl, upd_same, fun d hd da => ⟨rfl, d, (fields.zip ws).reverse, upd_same, ?_, ?_, ?_⟩⟩⟩
  · rw [upd_ne da, upd_same]
  · rw [upd_ne da] at hd
    exact hd
  · rw [err_heap ha da]
    rw [upd_ne da] at hd
    exact q d hd
end Qi
set_option Elab.async false
set_option linter.all false
set_option maxRecDepth 100000
set_option maxHeartbeats 4000000
namespace K03
open PySem PySem.Spec PyProof.Rows L2 TL Qh Qi Ql ClX
abbrev sAsc : Stmt := top 9
abbrev sInit : Stmt := inClass (top 13) 1
abbrev sErrInit : Stmt := inClass (top 2) 0
def ixV : Option Nat → V
  | none => .non
  | some i => .int (i : Int)
/-- the reason and the index that are due; none if the step can be made -/
def dueX (xs : List V) : Option (Str × Option Nat) := if (decide ((1 : Int) ≤ (xs.length : Int)) && decide ((xs.length : Int) ≤ 20)) = true then
  (match xs.findIdx? (fun v => !wordV v) with
    | some i => some (Str.ofString "word", some i)
    | none => none) else some (Str.ofString "words", none)
theorem txt_of {m : Int} {v : V} (h : lettersV v m = true) : ∃ x, v = .str x := by
  cases v with
  | str x => exact ⟨x, rfl⟩
  | _ => cases h
theorem all_txt : ∀ {xs : List V}, (∀ v ∈ xs, ∃ x, v = .str x) → ∃ ts : List Str, xs = ts.map V.str
  | [], _ => ⟨[], rfl⟩
  | v :: xs, h => by
    obtain ⟨x, rfl⟩ := h _ List.mem_cons_self
    obtain ⟨ts, e⟩ := all_txt fun v hv => h v (List.mem_cons_of_mem _ hv)
    exact ⟨x :: ts, by rw [e]; rfl⟩
def ErrStep (G G' : Hp) (d : Addr) (reason : Str) (i : V) : Prop := G d = none ∧ Same G G' ∧ G' d = some (.xd [("index", i), ("reason", .str reason)])
theorem two_of {l : List V} (h : l.length = 2) : ∃ a b, l = [a, b] := match l, h with
  | [a, b], _ => ⟨a, b, rfl⟩
theorem heap2 {G : Hp} {a d : Addr} {x y z : HO} (n : d ≠ a) : L2.upd (L2.upd (L2.upd G d x) a y) d z = L2.upd (L2.upd G d z) a y := by
  funext b
  by_cases hb : b = d
  · subst hb
    rw [upd_same, upd_ne n, upd_same]
  · rw [upd_ne hb]
    by_cases ha : b = a
    · subst ha
      rw [upd_same, upd_same]
    · rw [upd_ne ha, upd_ne hb, upd_ne ha, upd_ne hb]
theorem tup_ne_ins {G : Hp} {D C dx : Addr} {fs : List (Str × V)} (h : G D = some (.ins C dx fs)) : ∀ a t, G a = some (.tup t) → a ≠ D := fun a t e z => by
  rw [z, h] at e
  cases e
/-- Stop, the class at C -/
structure StopC (K : PySem.W.Frag) (mg : Str → Option Value) (C : Addr) : Prop where
  g : mg "Stop" = some (.ref C)
  most : ∃ mc u, CRead K C mc ∧ CVal K C mc "MOST" (.int 20) u
/-- a class whose instances it makes -/
structure InsW (K : PySem.W.Frag) (C : Addr) : Prop where
  cl : Cls K C
  n1 : NoAttr K C "words"
def spInit (K : PySem.W.Frag) (CI CE : Addr) : Sp := fun vs G Q E => ∃ (x dx p : Addr) (xs : List V), vs = [.ref x, .ref p] ∧ G x = some (.ins CI dx []) ∧ G p = some (.tup xs) ∧ (∀ v ∈ xs, ∀ G', Same G G' → Known K G' v) ∧ xs.length ≤ 1000 ∧
  (∀ reason i, dueX xs = some (reason, i) → ∀ d G', ErrStep G G' d reason (ixV i) → E (.ref CE) (some d) G') ∧
  (∀ ts : List Str, dueX xs = none → xs = ts.map V.str → ∀ (D1 : Addr) (ss : List Str) G', Kp x G G' → G' x = some (.ins CI dx [("words", .ref D1)]) → G' D1 = some (.tup (ss.map V.str)) → Qs.Asc ts ss → Q .non G')
section
variable {P : Program} {w : World} {K : PySem.W.Frag} {mg : Str → Option Value} {base : Heap}
theorem scAsc : FnScope ["values"] ["values"] (defScope sAsc) := ⟨rfl, rfl, rfl, by decide +kernel, rfl, by decide +kernel, by decide +kernel⟩
theorem ok_asc (D : DefIn K mg "ascending" sAsc) (B : Blt mg) : Ok P w K mg base "ascending" (defArgs sAsc) ["values"] 1 (Qi.spAsc K) := by
  refine D.ok scAsc (fun vs G Q E h => ?_) (fun _ _ _ _ _ _ us hl => match us, hl with | [_], _ => rfl) (fun f cdv A out t G vs Q E hr h => ?_)
  · obtain ⟨l, ts, rfl, _⟩ := h
    rfl
  · obtain ⟨l, ts, rfl, hs, few, k⟩ := h
    refine ⟨_, pss_one (ps_ret (pe_callTy cn_tuple (by rfl) B.n_tuple bt_tuple (pa_cons (pe_callB (Qs.call_sortX rfl) (by rfl) B.n_sorted bt_sorted (pa_cons (pe_callTy (Qs.call_setX rfl) (by rfl) B.n_set bt_set (pa_cons (pv 0) pa_nil)) pa_nil)) pa_nil))), ?_⟩
    exact ⟨_, rfl, asc_read (w := w) hs few k⟩
theorem scErrInit : FnScope ["self", "reason", "index"] ["self", "reason", "index"] (defScope sErrInit) := ⟨rfl, rfl, rfl, by decide +kernel, rfl, by decide +kernel, by decide +kernel⟩
theorem ok_errInit {C f : Addr} {fd : FuncData} (F : Fun K "__init__" "InvalidStep.__init__" sErrInit f fd) (T : OexC K C) (no : ∀ x ∈ (["reason", "index"] : List Str), PySem.W.findIn K (.ref C) x = some none) : FnOk P w K mg base (L2.CX P w) 1 f fd ["self", "reason", "index"] (Qv.spErrG C ["reason", "index"]) := by
  refine F.okX scErrInit (fun vs G Q E h => ?_) (fun cdv A out t G vs Q E hr h => ?_)
  · obtain ⟨a, ws, rfl, hl, _⟩ := h
    rw [List.length_cons, hl]
    rfl
  · obtain ⟨a, ws, rfl, hl, ha, k⟩ := h
    obtain ⟨y1, y2, rfl⟩ := two_of hl
    refine ⟨_, pss_cons (ps_ost (pv 0) (pv 1)) (pss_one (ps_ost (pv 0) (pv 2))), ?_⟩
    refine ⟨_, rfl, _, rfl, a, C, rfl, T, no _ List.mem_cons_self, .inl ⟨ha, fun dx hd da => ?_⟩⟩
    refine ⟨_, rfl, _, rfl, a, C, rfl, T, no _ (List.mem_cons_of_mem _ List.mem_cons_self), .inr ⟨dx, _, upd_same, by rw [upd_ne da, upd_same], by show 1 ≤ 900; decide, ?_⟩⟩
    rw [heap2 da]
    exact k dx hd da
abbrev initN : List Str := ["self", "words", "index", "word"]
theorem scInit : FnScope initN ["self", "words"] (defScope sInit) := ⟨rfl, rfl, rfl, by decide +kernel, rfl, by decide +kernel, by decide +kernel⟩
theorem body_init {C CI CE : Addr} (B : Blt mg) (T : StopC K mg C) (W : InsW K CI) (TE : ErrN P w K mg base "InvalidStep" ["reason", "index"] CE) (F_is_word : Ok P w K mg base "is_word" (defArgs sIsWord) ["value"] 2 (spIsWord K)) (F_asc : Ok P w K mg base "ascending" (defArgs sAsc) ["values"] 1 (Qi.spAsc K))
    {f : Addr} (cdv : Value) (A : Around) (out : List Env) (t : Shared) (G : Hp) (vs : List V) (Q : VK) (E : XK) (hr : Room 3 (A.deeper (envOfC "Stop.__init__" (defScope sInit) t.heap.objs.size f cdv))) (h : spInit K CI CE vs G Q E) :
    ∃ rd, PSs (cxOf (L2.CX P w) P w K mg base initN "Stop.__init__" (defScope sInit) f cdv A out t G E) (defBody sInit) rd ∧ rd { nx := fun _ G' => Q .non G', rt := Q } (start initN vs) G := by
  obtain ⟨x, dx, p, xs, rfl, hx, hp, hk, hn, kE, kD⟩ := h
  refine ⟨_, (pss_cons (ps_if (pt_not (pt_chain op_le op_le pe_int (pe_callB call_len (by rfl) B.n_len bt_len (pa_cons (pv 1) pa_nil)) (pe_cval (pe_glob (v := .ref C) rfl T.g rfl)))) (pss_one (ps_raise rfl (takes_of rfl rfl rfl rfl) (pmk_errN TE (hr.mono (by decide)) (pa_cons pe_str (pa_cons pe_non pa_nil))))) pss_nil)
    (pss_cons (ps_for (passes_of rfl) rfl (pi_enumT (by rfl) B.n_enumerate (pa_cons (pv 1) pa_nil)) (pg_tup rfl (pgs_cons (pg_name (i := 2) scInit.nd rfl (by first | exact Or.inl rfl | exact Or.inr rfl)) (pgs_cons (pg_name (i := 3) scInit.nd rfl (by first | exact Or.inl rfl | exact Or.inr rfl)) pgs_nil)))
      (pss_one (ps_if (pt_not (pt_val (pe_own F_is_word (hr.mono (by decide)) takes0 (pa_cons (pv 3) pa_nil)))) (pss_one (ps_raise rfl (takes_of rfl rfl rfl rfl) (pmk_errN TE (hr.mono (by decide)) (pa_cons pe_str (pa_cons (pv 2) pa_nil))))) pss_nil)))
    (pss_one (ps_fld (pv 0) (pe_own F_asc (hr.mono (by decide)) takes0 (pa_cons (pv 1) pa_nil)) rfl)))), ?_⟩
  refine ⟨_, rfl, .ref p, _, rfl, .inr ⟨_, SqT.of hp, rfl⟩, _, _, rfl, rfl, _, rfl, ?_⟩
  have raise : ∀ (reason : Str) (i : V) (G' : Hp), (∀ d G2, ErrStep G' G2 d reason i → E (.ref CE) (some d) G2) → _ := fun reason i G' kx => errN_end (fields := ["reason", "index"]) (C := CE) (ws := [.str reason, i]) (G1 := G') (Q := fun cls d G' => E cls d G') rfl (by show 2 ≤ 1000; decide) fun d hd => kx d _ ⟨hd, Qh.Same.new hd, upd_same⟩
  have words : (decide ((1 : Int) ≤ (xs.length : Int)) && decide ((xs.length : Int) ≤ 20)) = false → dueX xs = some (Str.ofString "words", none) := fun h => by
    unfold dueX
    rw [h]
    rfl
  refine ite2 (fun h1 => ?_) (fun h1 => ?_)
  case refine_2 =>
    refine ⟨_, rfl, iteT ?_⟩
    exact raise "words" .non G (kE _ none (words (by rw [Bool.eq_false_iff.mpr h1, Bool.false_and])))
  obtain ⟨mc, u8, cr, cv⟩ := T.most
  refine ⟨C, mc, .int 20, u8, rfl, cr, cv, ?_⟩
  refine ⟨_, _, rfl, rfl, _, rfl, ?_⟩
  refine ite2 (fun h2 => ?_) (fun h2 => ?_)
  · have h2 : decide ((xs.length : Int) ≤ 20) = false := by simpa using h2
    exact raise "words" .non G (kE _ none (words (by rw [h2, Bool.and_false])))
  have h2 : decide ((xs.length : Int) ≤ 20) = true := by simpa using h2
  have h12 : (decide ((1 : Int) ≤ (xs.length : Int)) && decide ((xs.length : Int) ≤ 20)) = true := by rw [h1, h2]; rfl
  have hn8 : xs.length ≤ 20 := by
    have := of_decide_eq_true h2
    omega
  refine ⟨_, rfl, p, _, rfl, SqT.of hp, for_it walk_enumT (fun i σ' G' => ∃ o3 o4, σ' = [some (.ref x), some (.ref p), o3, o4] ∧ Same G G' ∧ ∀ j v, j < i → xs[j]? = some v → wordV v = true)
    ⟨none, none, rfl, Same.refl G, fun j v hj _ => absurd hj (Nat.not_lt_zero j)⟩ (fun i σ' G' _ ⟨_, _, _, sm, _⟩ => SqT.of (sm _ _ hp)) ?_ ?_⟩
  · rintro i y σ1 G1 G2 hi ⟨o3, o4, rfl, sm, hw⟩ ⟨Tp, a, b, rfl, hT, rfl, ea, eb⟩
    obtain rfl : a = V.int (i : Int) := (Option.some.inj ea).symm
    have eb : xs[i]? = some b := eb
    have smT : Same G (L2.upd G1 Tp (.tup [V.int (i : Int), b])) := Qh.Same.fresh sm (sm.free hT)
    refine ⟨Tp, _, rfl, SqT.of upd_same, rfl, _, _, rfl, _, _, rfl, rfl, ?_⟩
    refine ⟨_, rfl, b, rfl, hk b (List.mem_of_getElem? eb) _ smT, fun G3 sm3 => ⟨_, rfl, ?_⟩⟩
    have sm' : Same G G3 := smT.trans sm3
    cases e : wordV b with
    | true =>
      refine ⟨_, _, rfl, sm', fun j v hj hjb => ?_⟩
      by_cases hji : j = i
      · subst hji
        rw [eb] at hjb
        cases hjb
        exact e
      · exact hw j v (by omega) hjb
    | false =>
      refine iteT ⟨_, rfl, raise "word" (.int (i : Int)) G3 fun d G4 es => kE _ (some i) ?_ d G4 ⟨sm'.free es.1, sm'.trans es.2.1, es.2.2⟩⟩
      have hf : xs.findIdx? (fun v => !wordV v) = some i := findIdx_some eb (by rw [e]; rfl) fun j v hj hv => by rw [hw j v hj hv]; rfl
      unfold dueX
      rw [if_pos h12, hf]
  · rintro σ1 G1 ⟨o3, o4, rfl, sm, hw⟩
    have hf : xs.findIdx? (fun v => !wordV v) = none := findIdx_none fun j v hv => by
      rw [hw j v (List.getElem?_eq_some_iff.mp hv).1 hv]
      rfl
    have due : dueX xs = none := by
      unfold dueX
      rw [if_pos h12, hf]
    obtain ⟨ts, hts⟩ := all_txt (xs := xs) fun v hv => by
      obtain ⟨j, hj⟩ := List.getElem?_of_mem hv
      exact txt_of (hw j v (List.getElem?_eq_some_iff.mp hj).1 hj)
    have hx2 : G1 x = some (.ins CI dx []) := sm _ _ hx
    have hp2 : G1 p = some (.tup (ts.map V.str)) := by rw [← hts]; exact sm _ _ hp
    have tl : ts.length < 64 := by
      rw [hts, List.length_map] at hn8
      omega
    refine ⟨_, rfl, p, ts, rfl, .inr (SqT.of hp2), tl, fun ss D1 G3 asc n3 s3 l3 => ?_⟩
    have hx3 : G3 x = some (.ins CI dx []) := s3 _ _ hx2
    refine ⟨_, rfl, x, CI, dx, [], rfl, hx3, W.cl, W.n1, by show 0 < 1000; decide, ?_⟩
    exact kD ts due hts D1 ss _ ((Kp.same (sm.trans s3)).trans Kp.self) (by rw [upd_same]; rfl) (by rw [upd_ne (tup_ne_ins hx3 D1 _ l3)]; exact l3) asc
/-- what a call of __init__ asks -/
def spInitS (K : PySem.W.Frag) (CI CE : Addr) : Sp := fun vs H Q E => ∃ ws rest, vs = ws ++ rest ∧ ws.length = ([("self" : Str)] : List Str).length ∧ rest.length ≤ sizeLine ∧ ∀ p, H p = Option.none → spInit K CI CE (ws ++ [V.ref p]) (L2.upd H p (.tup rest)) Q E
theorem ok_init {C CI CE f : Addr} {fd : FuncData} (F : Fun K "__init__" "Stop.__init__" sInit f fd) (B : Blt mg) (T : StopC K mg C) (W : InsW K CI) (TE : ErrN P w K mg base "InvalidStep" ["reason", "index"] CE) (F_is_word : Ok P w K mg base "is_word" (defArgs sIsWord) ["value"] 2 (spIsWord K)) (F_asc : Ok P w K mg base "ascending" (defArgs sAsc) ["values"] 1 (Qi.spAsc K)) :
    FnR P w K mg base (L2.CX P w) 4 f (spInitS K CI CE) := by
  obtain ⟨oc, od, kV, doc, pm, an, cdv, ct, osl, rfl, lk, hcd⟩ := F.ex
  exact StX.fn_star (ps := ["self"]) (pv := "words") lk hcd scInit StX.cxUp (fun us rest hl => match us, rest, hl with
    | [_], [], _ => rfl
    | [_], _ :: _, _ => rfl) fun A out t G vs Q E hr h => body_init B T W TE F_is_word F_asc cdv A out t G vs Q E hr h
end
end K03
set_option Elab.async false
set_option linter.all false
set_option maxRecDepth 100000
set_option maxHeartbeats 4000000
/-! def __init__(self, *words): super().__init__(*words) -/
namespace Qu
open PySem PySem.Spec PyProof.Rows L2 NdefX
section
open PySem.W
variable {prog : Program} {w : World} {M : Model} {A : Around} {E : Value → Shared → Prop} {h : Heap} {g : Array GenState} {d : Drawn} {t : Nat} {os : OsState}
theorem getAttr_super {so D x C f : Addr} {of : Obj} {l₀ l : List Value} {K : Frag} {name : Str} {b : Bool} {Q : Value → Shared → Prop}
    (hso : h.get? so = some { cls := .type "super", dict := none, data := .fields #[.ref D, .ref x, .ref C], slots := #[] }) (hno : Looks (model prog w) h (opaqueClassAbove (.ref C)) none)
    (hC : Looks (model prog w) h (mroOf (.ref C)) l₀) (hl : (l₀.dropWhile (· != .ref D)).drop 1 = l) (X : K.In h)
    (hf : alongIn K name l = some (some (.ref f))) (hfo : h.get? f = some of) (hfc : of.cls = .type "function") (hxC : x ≠ C) (hn : (name == ("__class__" : Str)) = false)
    (hq : Q (.ref h.objs.size) ⟨h.push { cls := .type "method", data := .fields #[.ref f, .ref x] }, g, d, t + 1, os⟩) :
    wpAny (model prog w) A (getAttr (.ref so) name b) Q E ⟨h, g, d, t, os⟩ := by
  have hlk := F.ks_slot_super_ga.lookup
  have hT : ∀ t', (⟨h, g, d, t', os⟩ : Shared).TypeIs (.ref so) "super" := fun _ => ⟨_, hso, rfl⟩
  unfold getAttr getAttrBy
  refine wpAny_bind (wpAny_mkText (wpAny_holding (wpAny_bind (wpAny_typeOf (hT _) (wpAny_bind (wpAny_of_eq hlk ?_))))))
  show wpAny _ _ (getAttrByItsOwn (.ref so) (.str name t) (.type "super") (.builtin "super.__getattribute__") true b) _ _ _
  unfold getAttrByItsOwn hookBefore callGetattribute boundAndCalled
  refine wpAny_bind (wpAny_of_eq (show (if onTheHeap (.type "super") then typeLookup (.type "super") "__getattr__" else pure none) = pure none from rfl) ?_)
  refine wpAny_bind (wpAny_attempt (wpAny_holding ?_))
  rw [show (b && onTheHeap (Value.builtin "super.__getattribute__")) = false by rw [show onTheHeap (Value.builtin "super.__getattribute__") = false from rfl, Bool.and_false]]
  show wpAny _ _ (bindSpecial (.builtin "super.__getattribute__") (.ref so) >>= _) _ _ _
  refine wpAny_bind (wpAny_of_eq (F.ks_slot_super_ga.bind _) ?_)
  refine wpAny_mono (Q := fun v s' => v = .ref h.objs.size ∧ s' = ⟨h.push { cls := .type "method", data := .fields #[.ref f, .ref x] }, g, d, t + 1, os⟩) (E := fun _ _ => False)
    (wpAny_call_entry F.ks_slot_super_ga (hT _) F.ks_entry_super_ga (ks_wpAny_super_ga hso hno hC hl X hf hfo hfc hxC hn ⟨_, rfl, rfl, rfl⟩) (F.ks_gaArgs_super _ _)) (fun v s' hv => ?_) fun _ _ z => z.elim
  obtain ⟨rfl, rfl⟩ := hv
  exact wpAny_pure hq
/-- o.m(*e), the object by super() -/
theorem starcallAt {c : Code} {s : Shared} {env : Env} {o e1 : Expr} {m : Str} {p apos pos : Pos} {Q : Value → Shared → Prop} (hst : starEach [.Starred e1 p] env = [(true, eval e1 env)])
    (h : _root_.PySem.wpAt M A c (attributeBase o m env (eval o env)) (fun ov s₁ => wpAny M A (getAttr ov m true) (fun f s₂ => wpAny M A (callWith pos f [] (backTo pos [(true, eval e1 env)]) []) Q E s₂) E s₁) E s) :
    _root_.PySem.wpAt M A c (eval (.Call (.Attribute o m apos) [.Starred e1 p] [] pos) env) Q E s := by
  have hke : backToKw pos (keywordEach [] env) = [] := rfl
  have hform : methodCallForm ([Expr.Starred e1 p].length + ([] : List Keyword).length) (backTo pos [(true, eval e1 env)]) [] = false := rfl
  have hpos : methodCallPos false o env apos pos = pure pos := rfl
  have hcal : ∀ ov, calleeOf false o env ov m = (getAttr ov m true >>= fun v => pure (v, [])) := fun _ => rfl
  rw [arm_eval_Call, hst, hke]
  refine _root_.PySem.wpAt_bind (ks_wpAt_mono h (fun ov s₁ h₁ => _root_.PySem.wpAt_of_wpAny ?_) fun _ _ x => x)
  refine wpAny_bind (wpAny_standAt ?_)
  unfold methodCall
  rw [hform, hpos, hcal]
  refine wpAny_bind (wpAny_holding (wpAny_bind (wpAny_mono h₁ (fun f s₂ h₂ => wpAny_pure ?_) fun _ _ x => x)))
  exact wpAny_bind (wpAny_pure h₂)
end
section
variable {P : Program} {w : World} {K : PySem.W.Frag} {mg : Str → Option Value} {base : Heap} {F : NF} {N : List Str} {f cc D CI f2 : Addr} {k : Nat} {sp2 : Sp} {doc pm ctv oc ccl cl' : Value} {od cdd cld : Option Addr} {osl ccs csl : Array (Option Value)} {vsC : Array Value} {file : Str} {tf : Tok} {cdD cdI : ClassData} {p0 p1 apos pw ps pos ep : Pos} {ar : Arg}
theorem fn_superStar (lk : K.lookup f = some ⟨oc, od, .func (F.fd doc pm ctv), osl⟩) (hcd : PySem.W.codeIn K (.ref F.c) F.qual = true) (S : NScope N ["self", "words"] ["__class__"] F.scope) (hcl : F.cl = [(Str.ofString "__class__", cc)])
    (hbody : F.body = [.Expr (.Call (.Attribute (.Call (.Name "super" p0) [] [] p1) "__init__" apos) [.Starred (.Name "words" pw) ps] [] pos) ep])
    (hb : ∀ (u : Value) (rest : List Value), bindArgs (F.fd doc pm ctv) ⟨u :: rest, []⟩ = (newTuple rest >>= fun t => pure [(Str.ofString "self", u), (Str.ofString "words", t)]))
    (har : (F.params.posonlyargs ++ F.params.args).head? = some ar) (hself : ar.arg = "self")
    (hcode : K.lookup F.c = some ⟨ccl, cdd, .fields vsC, ccs⟩) (hvs : vsC[2]? = some (.str file tf)) (hfile : ((P.main.file : Str) == file) = true) (htop : (P.main.scope.names.lookup ("super" : Str)).isSome = false)
    (hcell : K.lookup cc = some ⟨cl', cld, .cell (some (.ref D)), csl⟩) (hD : PySem.W.clsIn K D = some cdD) (hI : PySem.W.clsIn K CI = some cdI) (hsub : PySem.W.mroIn K CI (.ref D) = some true) (hsuper : mg "super" = none)
    (hks : F.scope.names.lookup ("super" : Str) = some .globalImplicit) (ho : PySem.W.nsIn K cStatics "thirdparty.any" = some none)
    (hm : PySem.W.alongIn K "__init__" ((cdI.mro.dropWhile (· != .ref D)).drop 1) = some (some (.ref f2))) (ht : PySem.W.typeIn K (.ref f2) = some (.type "function")) (hfn : PySem.W.fnIn K f2 = true)
    (F2 : FnR P w K mg base (L2.CX P w) k f2 sp2) :
    FnR P w K mg base (L2.CX P w) (k + 1) f (fun vs H Q E => ∃ (x dx : Addr) (fs : List (Str × V)) (rest : List V), vs = .ref x :: rest ∧ H x = some (.ins CI dx fs) ∧ rest.length ≤ sizeLine ∧ ∀ H', Same H H' → sp2 (.ref x :: rest) H' (fun _ H'' => Q .non H'') E) := by
  intro A outer s H us vs Q E hr e0 r hsp
  obtain ⟨x, dx, fs, rest, rfl, hx, few, want⟩ := hsp
  obtain ⟨u2, rfl, r2⟩ : ∃ u2, us = Value.ref x :: u2 ∧ Vals rest u2 := by
    cases r with
    | cons a b =>
      cases a
      exact ⟨_, rfl, b⟩
  have KX : K.In s.heap := e0.mod.kin.keeps fun b o e => (e0.bs b o e).1
  have hn : H s.heap.objs.size = Option.none := e0.hok.fresh (Nat.le_refl _)
  have hl2 : u2.length ≤ sizeLine := by rw [← r2.length]; exact few
  refine codeAny_call_function hr.depth (KX _ _ lk) rfl S.co S.gen rfl (PySem.W.codeRec_of KX hcd) ?_
  rw [hb]
  refine wpAny_bind (wpAny_newTuple (wpAny_pure ?_) hl2)
  have new : ObjOk P w (upd H s.heap.objs.size (.tup rest)) (s.heap.push ({ cls := .type "tuple", data := .seq u2.toArray } : Obj)) s.heap.objs.size (.tup rest) := ⟨few, u2, r2, ⟨_, Heap.get?_push_size _ rfl, rfl, _, rfl⟩⟩
  have un : Un (frs outer) [] H (upd H s.heap.objs.size (.tup rest)) s.heap ({ s with heap := s.heap.push ({ cls := .type "tuple", data := .seq u2.toArray } : Obj) } : Shared).heap := StX.un_laid (fs := frs outer) (s := s) (o := ({ cls := .type "tuple", data := .seq u2.toArray } : Obj)) (u := .tup rest) hn
  have e2 := StX.env0_laid e0 new
  have hx2 : ∀ e s', L2.CX P w outer (upd H s.heap.objs.size (.tup rest)) { s with heap := s.heap.push ({ cls := .type "tuple", data := .seq u2.toArray } : Obj) } E e s' → L2.CX P w outer H s E e s' := fun e s' => StX.cxUp outer s H _ _ E e s' un (fun b o q => Heap.get?_push_of_some _ q) rfl
  have sm : Same H (upd H s.heap.objs.size (.tup rest)) := Qh.Same.new hn
  have tupAt : (upd H s.heap.objs.size (.tup rest)) s.heap.objs.size = some (.tup rest) := upd_same
  have hxx := sm _ _ hx
  have hos : ({ s with heap := s.heap.push ({ cls := .type "tuple", data := .seq u2.toArray } : Obj) } : Shared).os = s.os := rfl
  generalize hs2 : ({ s with heap := s.heap.push ({ cls := .type "tuple", data := .seq u2.toArray } : Obj) } : Shared) = s2 at e2 hx2 un hos ⊢
  generalize upd H s.heap.objs.size (.tup rest) = H2 at e2 hx2 un sm tupAt hxx
  have lim : s2.heap.NoLimit := e0.mod.nolimit.keeps fun b o e => (e2.bs b o e).1
  have KX2 : K.In s2.heap := e0.mod.kin.keeps fun b o e => (e2.bs b o e).1
  refine wpAny_newFunctionEnv S.nocell (fun y hy => ?_) (fun h₁ hns hsb => ⟨lim.fresh _ hsb, ?_⟩) S.kind
  · refine S.par y.1 ?_
    rcases List.mem_cons.mp hy with rfl | hy
    · exact List.mem_cons_self
    · rw [List.mem_singleton.mp hy]
      exact List.mem_cons_of_mem _ List.mem_cons_self
  show codeAny _ _ (.func F.body (envF F f s2.heap.objs.size)) _ _
  have kp : ∀ b o, s2.heap.get? b = some o → h₁.get? b = some o := fun b o e => hsb.extBut b o (Nat.ne_of_lt (Heap.lt_size e)) (Heap.get?_push_of_some _ e)
  have cells : CellsAt F.cl ["__class__"] [some (.ref D)] s2.heap H2 := by
    rw [hcl]
    refine ⟨rfl, fun y c e => ?_, fun x y c e1 e2 => ?_, fun i y e => ?_⟩
    · have : cc = c := by
        unfold List.lookup at e
        split at e
        · exact Option.some.inj e
        · cases e
      subst this
      exact ⟨(e2.bs _ _ (e0.mod.kin _ _ hcell)).2, _, ⟨_, KX2 _ _ hcell, rfl⟩⟩
    · have one : ∀ {z : Str} {c : Addr}, List.lookup z [(Str.ofString "__class__", cc)] = some c → z = Str.ofString "__class__" := fun {z c} e => by
        unfold List.lookup at e
        split at e
        · rename_i h
          exact beq_iff_eq.mp h
        · cases e
      rw [one e1, one e2]
    · cases i with
      | zero =>
        cases e
        refine ⟨cc, by rfl, fun v hv => ?_⟩
        cases hv
        exact ⟨_, rfl, ⟨_, KX2 _ _ hcell, rfl⟩⟩
      | succ i => cases e
  have I : Inv (ncx (L2.CX P w) P w K mg base N F f A outer s2 H2 E) [] (startF N [.ref x, .ref s.heap.objs.size] [some (.ref D)]) H2 { s2 with heap := h₁, toks := s2.toks + 2 } := inv_startN (ps := ["self", "words"]) (us := [.ref x, .ref s.heap.objs.size]) S hr.hd e2 rfl (.cons rfl (.cons rfl .nil)) cells hns kp
  refine ks_codeAny_funcAt ?_
  refine PySem.ks_wpAt_mono (Q := fun fl s' => fl = Flow.next ∧ ∃ σ' H', Inv (ncx (L2.CX P w) P w K mg base N F f A outer s2 H2 E) [] σ' H' s' ∧ Q .non H') (E := (ncx (L2.CX P w) P w K mg base N F f A outer s2 H2 E).xe) ?_ (fun fl s' hs => ?_) (fun e s' hs => wpAny_mono hs (fun _ s'' z => hx2 e s'' z) fun e' s'' z => hx2 e' s'' z)
  case refine_2 =>
    obtain ⟨rfl, σ', H', J, q⟩ := hs
    exact ⟨.non, H', J.os.trans hos, J.bare, un.trans J.base, J.hok, rfl, q⟩
  rw [hbody]
  obtain ⟨oD, hD1, hD2⟩ : ∃ oD, h₁.get? D = some oD ∧ oD.data = .cls cdD := by
    unfold PySem.W.clsIn at hD
    split at hD
    · rename_i c d cd' sl ho
      cases hD
      exact ⟨_, kp _ _ (KX2 _ _ ho), rfl⟩
    · cases hD
  have hkc : F.scope.names.lookup ("__class__" : Str) = some .free := S.frk _ List.mem_cons_self
  have hka : F.scope.names.lookup ("self" : Str) = some .local := S.par _ List.mem_cons_self
  have KI : K.In h₁ := I.kIn
  obtain ⟨mb, hm1, hm2⟩ := I.mod.blt
  obtain ⟨mA, O, _, _, _, _⟩ := ins_get I.hok hxx
  obtain ⟨odx, J, hlx⟩ := O.look
  refine PySem.ks_wpAt_execs_cons (PySem.ks_wpAt_Expr_any (starcallAt rfl ?_) (by unfold interactive; rw [show (envF F f s2.heap.objs.size).scope.kind = .function from S.kind]; rfl) rfl)
  refine PySem.ks_wpAt_super_base hks hkc rfl rfl (KI _ _ lk) rfl har rfl (KI _ _ hcode) rfl hvs hfile htop ?_
  refine PySem.W.ks_loadName_global S.kind hks (PySem.Calls.loadGlobal_builtin (I.mod.glob.keeps I.bk) hsuper (hm1.keeps I.bk) ((hm2 _ (by decide)).trans (by decide +kernel)) ⟨rfl, ?_⟩)
  refine wpAny_loadName_free S.kind hkc (by rw [show (envF F f s2.heap.objs.size).cells = F.cl from rfl, hcl]; rfl) ⟨_, KI _ _ hcell, rfl⟩ ?_
  rw [hself]
  refine wpAny_loadName_local S.kind hka hns (v := .ref x) rfl ?_
  refine PySem.ks_wpAny_isType_cls hD1 hD2 ⟨rfl, ?_⟩
  refine PySem.ks_wpAny_call_super hD1 hD2 J.at_ J.cls (fun c e => ?_) (PySem.W.looks_mroIn KI hsub) (fun h' e kk => ?_)
  · have := J.no
    unfold PySem.W.notCls at this
    rw [e] at this
    exact Bool.noConfusion this
  have I2 : Inv (ncx (L2.CX P w) P w K mg base N F f A outer s2 H2 E) [] (startF N [.ref x, .ref s.heap.objs.size] [some (.ref D)]) H2 { s2 with heap := h', toks := s2.toks + 2 } := I.kept (t' := s2.toks + 2) kk
  have K2 : K.In h' := I2.kIn
  obtain ⟨of, hof, hofc⟩ : ∃ of, h'.get? f2 = some of ∧ of.cls = .type "function" := by
    have ht' : (K.lookup f2).map (·.cls) = some (.type "function") := ht
    cases z : K.lookup f2 with
    | none => rw [z] at ht'; cases ht'
    | some of => rw [z] at ht'; exact ⟨of, K2 _ _ z, Option.some.inj ht'⟩
  refine getAttr_super e (PySem.W.looks_opaque K2 ho) (l₀ := cdI.mro) ?_ rfl K2 hm hof hofc (PySem.W.ks_ne KI J hI) (by decide +kernel) ?_
  · exact fun A Q E s k q => wpAny_bind ((PySem.W.looks_clsIn K2 hI) A _ E s k (wpAny_pure q))
  have mAt : (h'.push (PySem.W.methodObj (.ref f2) (.ref x))).get? h'.objs.size = some (PySem.W.methodObj (.ref f2) (.ref x)) := Heap.get?_push_size h' rfl
  have hq1 : H2 h'.objs.size = none := I2.hok.fresh (Nat.le_refl _)
  have I3 := I2.laid (t' := s2.toks + 2 + 1) (h' := h'.push (PySem.W.methodObj (.ref f2) (.ref x))) (a := h'.objs.size) (o := .met f2 x) (fun b u z => Heap.get?_push_of_some _ z) (Nat.le_refl _) mAt
  have hN : N[1]? = some (Str.ofString "words") := by
    have e := S.pre
    have e3 : (N.take 3)[1]? = some (Str.ofString "words") := by
      rw [show N.take 3 = _ from e]
      rfl
    rw [List.getElem?_take_of_lt (by decide)] at e3
    exact e3
  have hw : F.scope.names.lookup ("words" : Str) = some .local := S.par _ (List.mem_cons_of_mem _ List.mem_cons_self)
  refine PySem.W.ks_call (P := PySem.W.MethP K h'.objs.size f2 (.ref x)) rfl (PySem.W.keeps_M hfn) (PySem.W.ks_lone ?_)
  refine thn ((pe_var (X := ncx (L2.CX P w) P w K mg base N F f A outer s2 H2 E) (i := 1) (x := "words") (pos := pw) hN (.inl hw) (by decide) (by decide)).run [] _ _ _ (fun v H => v = .ref s.heap.objs.size ∧ H = upd H2 h'.objs.size (.met f2 x)) I3 ⟨.ref s.heap.objs.size, rfl, rfl, rfl⟩) fun u s4 ⟨v, H4, I4, r1, ev, eH⟩ => ?_
  subst ev eH
  obtain rfl : u = Value.ref s.heap.objs.size := r1
  have s23 : Same H2 (upd H2 h'.objs.size (.met f2 x)) := Qh.Same.new hq1
  refine star_tup I4 (SqT.of (s23 _ _ tupAt)) fun us s5 I5 rv => ⟨met_P I5 upd_same, ?_⟩
  have hxp : Passes (L2.CX P w) (ncx (L2.CX P w) P w K mg base N F f A outer s2 H2 E) E := passes_call (takes_of rfl rfl rfl rfl) fun _ _ _ _ h => h
  refine wpAny_mono (wpAny_call (PySem.W.method_call (met_P I5 upd_same).1 (run_fnR (X := ncx (L2.CX P w) P w K mg base N F f A outer s2 H2 E) (us := Value.ref x :: us) (vs := V.ref x :: rest) F2 (hr.deeper _) hxp I5 (.cons rfl rv) (want _ (sm.trans s23))))) (fun u s6 h6 => ?_) fun _ _ z => z
  obtain ⟨v, H6, I6, r6, q6⟩ := h6
  exact PySem.wpAt_of_wpAny (wpAny_execs_nil ⟨rfl, _, _, I6, q6⟩)
end
end Qu
set_option Elab.async false
set_option linter.all false
set_option maxRecDepth 100000
set_option maxHeartbeats 8000000
namespace K03
open PySem PySem.Spec PyProof.Rows L2 TL Qh Qi Ql ClX
abbrev sStop : Stmt := top 20
abbrev sDrop : Stmt := top 21
/-- an instance with these words -/
def StepAt (C : Addr) (G : Hp) (a : Addr) (ss : List Str) : Prop := ∃ dx D1, G a = some (.ins C dx [("words", .ref D1)]) ∧ G D1 = some (.tup (ss.map V.str))
theorem StepAt.same {C : Addr} {G G' : Hp} {a : Addr} {ss : List Str} (h : StepAt C G a ss) (s : Same G G') : StepAt C G' a ss := by
  obtain ⟨dx, D1, h1, h2⟩ := h
  exact ⟨dx, D1, s _ _ h1, s _ _ h2⟩
/-- what is wished of C(*xs), C Stop or Drop -/
structure Made (K : PySem.W.Frag) (CI CE : Addr) (xs : List V) (H : Hp) (Q : VK) (E : XK) : Prop where
  hk : ∀ v ∈ xs, ∀ G', Same H G' → Known K G' v
  hn : xs.length ≤ 1000
  kE : ∀ reason i, dueX xs = some (reason, i) → ∀ d G', ErrStep H G' d reason (ixV i) → E (.ref CE) (some d) G'
  kD : ∀ ts : List Str, dueX xs = none → xs = ts.map V.str → ∀ (x : Addr) (ss : List Str) G', H x = none → Same H G' → StepAt CI G' x ss → Qs.Asc ts ss → Q (.ref x) G'
theorem Made.same {K : PySem.W.Frag} {CI CE : Addr} {xs : List V} {G H : Hp} {Q : VK} {E : XK} (m : Made K CI CE xs G Q E) (s : Same G H) : Made K CI CE xs H Q E :=
  ⟨fun v hv G' k => m.hk v hv G' (s.trans k), m.hn, fun r i h d G' e => m.kE r i h d G' ⟨s.free e.1, s.trans e.2.1, e.2.2⟩, fun ts h e x ss G' n k => m.kD ts h e x ss G' (s.free n) (s.trans k)⟩
theorem Made.at {K : PySem.W.Frag} {CI CE : Addr} {xs : List V} {H H' : Hp} {Q Q' : VK} {E : XK} (m : Made K CI CE xs H Q E) {x dx : Addr} (hx : H x = none) (s : Same H H') (hi : H' x = some (.ins CI dx [])) (hQ : ∀ G', Q (.ref x) G' → Q' .non G') :
    spInitS K CI CE (V.ref x :: xs) H' Q' E := by
  refine ⟨[.ref x], xs, rfl, rfl, big_line (by have := m.hn; omega), fun p hp => ?_⟩
  have px : p ≠ x := fun e => by
    rw [e, hi] at hp
    cases hp
  have s2 : Same H (L2.upd H' p (.tup xs)) := s.trans (Qh.Same.new hp)
  refine ⟨x, dx, p, xs, rfl, by rw [upd_ne px.symm]; exact hi, upd_same, fun v hv G' k => m.hk v hv G' (s2.trans k), m.hn, fun r i h d G' e => m.kE r i h d G' ⟨s2.free e.1, s2.trans e.2.1, e.2.2⟩, ?_⟩
  intro ts h e D1 ss G' kp ix t1 a1
  exact hQ G' (m.kD ts h e x ss G' hx (fun c o z => kp c o (ne_of_none z hx) (s2 _ _ z)) ⟨dx, D1, ix, t1⟩ a1)
theorem Made.want {K : PySem.W.Frag} {CI CE : Addr} {xs : List V} {H : Hp} {Q : VK} {E : XK} (m : Made K CI CE xs H Q E) (x dx : Addr) (hx : H x = none) (hdx : H dx = none) (ne : dx ≠ x) :
    spInitS K CI CE (V.ref x :: xs) (L2.upd (L2.upd H dx (.own x)) x (.ins CI dx [])) (fun v H2 => v = .non ∧ Q (.ref x) H2) E :=
  m.at hx (fun b o e => by rw [upd_ne (ne_of_none e hx), upd_ne (ne_of_none e hdx)]; exact e) upd_same fun G' q => ⟨rfl, q⟩
/-- what a call of Drop's __init__ asks -/
def spInitDrop (K : PySem.W.Frag) (CI CE : Addr) : Sp := fun vs H Q E => ∃ (x dx : Addr) (fs : List (Str × V)) (rest : List V), vs = .ref x :: rest ∧ H x = some (.ins CI dx fs) ∧ rest.length ≤ sizeLine ∧ ∀ H', Same H H' → spInitS K CI CE (.ref x :: rest) H' (fun _ H'' => Q .non H'') E
theorem Made.wantDrop {K : PySem.W.Frag} {CI CE : Addr} {xs : List V} {H : Hp} {Q : VK} {E : XK} (m : Made K CI CE xs H Q E) (x dx : Addr) (hx : H x = none) (hdx : H dx = none) (ne : dx ≠ x) :
    spInitDrop K CI CE (V.ref x :: xs) (L2.upd (L2.upd H dx (.own x)) x (.ins CI dx [])) (fun v H2 => v = .non ∧ Q (.ref x) H2) E := by
  have s1 : Same H (L2.upd (L2.upd H dx (.own x)) x (.ins CI dx [])) := fun b o e => by rw [upd_ne (ne_of_none e hx), upd_ne (ne_of_none e hdx)]; exact e
  exact ⟨x, dx, [], xs, rfl, upd_same, big_line (by have := m.hn; omega), fun H' s => m.at hx (s1.trans s) (s _ _ upd_same) fun G' q => ⟨rfl, q⟩⟩
abbrev rowLens : List Nat := [0, 1, 2, 3, 20, 21]
def spMake (K : PySem.W.Frag) (CI CE : Addr) : Sp := fun vs G Q E => ∃ (a : Addr) (xs : List V), vs = [.ref a] ∧ SqL K G a xs ∧ xs.length ∈ rowLens ∧ Made K CI CE xs G Q E
section
variable {P : Program} {w : World} {K : PySem.W.Frag} {mg : Str → Option Value} {base : Heap}
theorem scStop : FnScope ["_law_row"] ["_law_row"] (defScope sStop) := ⟨rfl, rfl, rfl, by decide +kernel, rfl, by decide +kernel, by decide +kernel⟩
theorem scDrop : FnScope ["_law_row"] ["_law_row"] (defScope sDrop) := ⟨rfl, rfl, rfl, by decide +kernel, rfl, by decide +kernel, by decide +kernel⟩
theorem ok_stop {C CE fI : Addr} (D : DefIn K mg "_law_stop" sStop) (B : Blt mg) (g : mg "Stop" = some (.ref C)) (M : Mk K C fI) (F : FnR P w K mg base (L2.CX P w) 4 fI (spInitS K C CE)) :
    Ok P w K mg base "_law_stop" (defArgs sStop) ["_law_row"] 6 (spMake K C CE) := by
  refine D.ok scStop (fun vs G Q E h => ?_) (fun _ _ _ _ _ _ us hl => match us, hl with | [_], _ => rfl) (fun f cdv A out t G vs Q E hr h => ?_)
  · obtain ⟨a, xs, rfl, _⟩ := h
    rfl
  · obtain ⟨a, xs, rfl, hS, hn, m⟩ := h
    refine ⟨_, (pss_cons (ps_if (pt_cmpR op_eq (pe_callB (r := rLen K) call_len (by rfl) B.n_len bt_len (pa_cons (pv 0) pa_nil)) pe_int (nomark _)) (pss_one (ps_ret (pe_makeS0 M F hr (takes_of rfl rfl rfl rfl) g))) pss_nil)
      (pss_cons (ps_if (pt_cmpR op_eq (pe_callB (r := rLen K) call_len (by rfl) B.n_len bt_len (pa_cons (pv 0) pa_nil)) pe_int (nomark _)) (pss_one (ps_ret (pe_makeS M F hr (takes_of rfl rfl rfl rfl) g (pa_cons (pe_ix ix_list (pv 0) pe_int (fun _ _ => rfl)) pa_nil)))) pss_nil)
      (pss_cons (ps_if (pt_cmpR op_eq (pe_callB (r := rLen K) call_len (by rfl) B.n_len bt_len (pa_cons (pv 0) pa_nil)) pe_int (nomark _)) (pss_one (ps_ret (pe_makeS M F hr (takes_of rfl rfl rfl rfl) g (pa_cons (pe_ix ix_list (pv 0) pe_int (fun _ _ => rfl)) (pa_cons (pe_ix ix_list (pv 0) pe_int (fun _ _ => rfl)) pa_nil))))) pss_nil)
      (pss_cons (ps_if (pt_cmpR op_eq (pe_callB (r := rLen K) call_len (by rfl) B.n_len bt_len (pa_cons (pv 0) pa_nil)) pe_int (nomark _)) (pss_one (ps_ret (pe_makeS M F hr (takes_of rfl rfl rfl rfl) g (pa_cons (pe_ix ix_list (pv 0) pe_int (fun _ _ => rfl)) (pa_cons (pe_ix ix_list (pv 0) pe_int (fun _ _ => rfl)) (pa_cons (pe_ix ix_list (pv 0) pe_int (fun _ _ => rfl)) pa_nil)))))) pss_nil)
      (pss_cons (ps_if (pt_cmpR op_eq (pe_callB (r := rLen K) call_len (by rfl) B.n_len bt_len (pa_cons (pv 0) pa_nil)) pe_int (nomark _)) (pss_one (ps_ret (pe_makeS M F hr (takes_of rfl rfl rfl rfl) g (pa_cons (pe_ix ix_list (pv 0) pe_int (fun _ _ => rfl)) (pa_cons (pe_ix ix_list (pv 0) pe_int (fun _ _ => rfl)) (pa_cons (pe_ix ix_list (pv 0) pe_int (fun _ _ => rfl)) (pa_cons (pe_ix ix_list (pv 0) pe_int (fun _ _ => rfl)) (pa_cons (pe_ix ix_list (pv 0) pe_int (fun _ _ => rfl)) (pa_cons (pe_ix ix_list (pv 0) pe_int (fun _ _ => rfl)) (pa_cons (pe_ix ix_list (pv 0) pe_int (fun _ _ => rfl)) (pa_cons (pe_ix ix_list (pv 0) pe_int (fun _ _ => rfl)) (pa_cons (pe_ix ix_list (pv 0) pe_int (fun _ _ => rfl)) (pa_cons (pe_ix ix_list (pv 0) pe_int (fun _ _ => rfl)) (pa_cons (pe_ix ix_list (pv 0) pe_int (fun _ _ => rfl)) (pa_cons (pe_ix ix_list (pv 0) pe_int (fun _ _ => rfl)) (pa_cons (pe_ix ix_list (pv 0) pe_int (fun _ _ => rfl)) (pa_cons (pe_ix ix_list (pv 0) pe_int (fun _ _ => rfl)) (pa_cons (pe_ix ix_list (pv 0) pe_int (fun _ _ => rfl)) (pa_cons (pe_ix ix_list (pv 0) pe_int (fun _ _ => rfl)) (pa_cons (pe_ix ix_list (pv 0) pe_int (fun _ _ => rfl)) (pa_cons (pe_ix ix_list (pv 0) pe_int (fun _ _ => rfl)) (pa_cons (pe_ix ix_list (pv 0) pe_int (fun _ _ => rfl)) (pa_cons (pe_ix ix_list (pv 0) pe_int (fun _ _ => rfl)) pa_nil))))))))))))))))))))))) pss_nil)
      (pss_one (ps_ret (pe_makeS M F hr (takes_of rfl rfl rfl rfl) g (pa_cons (pe_ix ix_list (pv 0) pe_int (fun _ _ => rfl)) (pa_cons (pe_ix ix_list (pv 0) pe_int (fun _ _ => rfl)) (pa_cons (pe_ix ix_list (pv 0) pe_int (fun _ _ => rfl)) (pa_cons (pe_ix ix_list (pv 0) pe_int (fun _ _ => rfl)) (pa_cons (pe_ix ix_list (pv 0) pe_int (fun _ _ => rfl)) (pa_cons (pe_ix ix_list (pv 0) pe_int (fun _ _ => rfl)) (pa_cons (pe_ix ix_list (pv 0) pe_int (fun _ _ => rfl)) (pa_cons (pe_ix ix_list (pv 0) pe_int (fun _ _ => rfl)) (pa_cons (pe_ix ix_list (pv 0) pe_int (fun _ _ => rfl)) (pa_cons (pe_ix ix_list (pv 0) pe_int (fun _ _ => rfl)) (pa_cons (pe_ix ix_list (pv 0) pe_int (fun _ _ => rfl)) (pa_cons (pe_ix ix_list (pv 0) pe_int (fun _ _ => rfl)) (pa_cons (pe_ix ix_list (pv 0) pe_int (fun _ _ => rfl)) (pa_cons (pe_ix ix_list (pv 0) pe_int (fun _ _ => rfl)) (pa_cons (pe_ix ix_list (pv 0) pe_int (fun _ _ => rfl)) (pa_cons (pe_ix ix_list (pv 0) pe_int (fun _ _ => rfl)) (pa_cons (pe_ix ix_list (pv 0) pe_int (fun _ _ => rfl)) (pa_cons (pe_ix ix_list (pv 0) pe_int (fun _ _ => rfl)) (pa_cons (pe_ix ix_list (pv 0) pe_int (fun _ _ => rfl)) (pa_cons (pe_ix ix_list (pv 0) pe_int (fun _ _ => rfl)) (pa_cons (pe_ix ix_list (pv 0) pe_int (fun _ _ => rfl)) pa_nil))))))))))))))))))))))))))))), ?_⟩
    have hl : ∃ n, xs.length = n ∧ n ∈ rowLens := ⟨_, rfl, hn⟩
    obtain ⟨n, hl, hn⟩ := hl
    simp only [List.mem_cons, List.not_mem_nil, or_false] at hn
    rcases hn with rfl | rfl | rfl | rfl | rfl | rfl
    · match xs, hl, hS, m with
      | [], _, hS, m =>
        refine ⟨_, rfl, .ref a, _, rfl, .inl ⟨_, hS, rfl⟩, rfl, _, rfl, iteT ?_⟩
        exact fun x dx hx hdx ne => m.want x dx hx hdx ne
    · match xs, hl, hS, m with
      | [v0], _, hS, m =>
        refine ⟨_, rfl, .ref a, _, rfl, .inl ⟨_, hS, rfl⟩, rfl, _, rfl, iteF ?_⟩
        refine ⟨_, rfl, .ref a, _, rfl, .inl ⟨_, hS, rfl⟩, rfl, _, rfl, iteT ?_⟩
        refine ⟨_, rfl, a, _, 0, v0, rfl, rfl, hS, atI_nat (j := 0) rfl, ?_⟩
        exact fun x dx hx hdx ne => m.want x dx hx hdx ne
    · match xs, hl, hS, m with
      | [v0, v1], _, hS, m =>
        refine ⟨_, rfl, .ref a, _, rfl, .inl ⟨_, hS, rfl⟩, rfl, _, rfl, iteF ?_⟩
        refine ⟨_, rfl, .ref a, _, rfl, .inl ⟨_, hS, rfl⟩, rfl, _, rfl, iteF ?_⟩
        refine ⟨_, rfl, .ref a, _, rfl, .inl ⟨_, hS, rfl⟩, rfl, _, rfl, iteT ?_⟩
        refine ⟨_, rfl, a, _, 0, v0, rfl, rfl, hS, atI_nat (j := 0) rfl, ?_⟩
        refine ⟨_, rfl, a, _, 1, v1, rfl, rfl, hS, atI_nat (j := 1) rfl, ?_⟩
        exact fun x dx hx hdx ne => m.want x dx hx hdx ne
    · match xs, hl, hS, m with
      | [v0, v1, v2], _, hS, m =>
        refine ⟨_, rfl, .ref a, _, rfl, .inl ⟨_, hS, rfl⟩, rfl, _, rfl, iteF ?_⟩
        refine ⟨_, rfl, .ref a, _, rfl, .inl ⟨_, hS, rfl⟩, rfl, _, rfl, iteF ?_⟩
        refine ⟨_, rfl, .ref a, _, rfl, .inl ⟨_, hS, rfl⟩, rfl, _, rfl, iteF ?_⟩
        refine ⟨_, rfl, .ref a, _, rfl, .inl ⟨_, hS, rfl⟩, rfl, _, rfl, iteT ?_⟩
        refine ⟨_, rfl, a, _, 0, v0, rfl, rfl, hS, atI_nat (j := 0) rfl, ?_⟩
        refine ⟨_, rfl, a, _, 1, v1, rfl, rfl, hS, atI_nat (j := 1) rfl, ?_⟩
        refine ⟨_, rfl, a, _, 2, v2, rfl, rfl, hS, atI_nat (j := 2) rfl, ?_⟩
        exact fun x dx hx hdx ne => m.want x dx hx hdx ne
    · match xs, hl, hS, m with
      | [v0, v1, v2, v3, v4, v5, v6, v7, v8, v9, v10, v11, v12, v13, v14, v15, v16, v17, v18, v19], _, hS, m =>
        refine ⟨_, rfl, .ref a, _, rfl, .inl ⟨_, hS, rfl⟩, rfl, _, rfl, iteF ?_⟩
        refine ⟨_, rfl, .ref a, _, rfl, .inl ⟨_, hS, rfl⟩, rfl, _, rfl, iteF ?_⟩
        refine ⟨_, rfl, .ref a, _, rfl, .inl ⟨_, hS, rfl⟩, rfl, _, rfl, iteF ?_⟩
        refine ⟨_, rfl, .ref a, _, rfl, .inl ⟨_, hS, rfl⟩, rfl, _, rfl, iteF ?_⟩
        refine ⟨_, rfl, .ref a, _, rfl, .inl ⟨_, hS, rfl⟩, rfl, _, rfl, iteT ?_⟩
        refine ⟨_, rfl, a, _, 0, v0, rfl, rfl, hS, atI_nat (j := 0) rfl, ?_⟩
        refine ⟨_, rfl, a, _, 1, v1, rfl, rfl, hS, atI_nat (j := 1) rfl, ?_⟩
        refine ⟨_, rfl, a, _, 2, v2, rfl, rfl, hS, atI_nat (j := 2) rfl, ?_⟩
        refine ⟨_, rfl, a, _, 3, v3, rfl, rfl, hS, atI_nat (j := 3) rfl, ?_⟩
        refine ⟨_, rfl, a, _, 4, v4, rfl, rfl, hS, atI_nat (j := 4) rfl, ?_⟩
        refine ⟨_, rfl, a, _, 5, v5, rfl, rfl, hS, atI_nat (j := 5) rfl, ?_⟩
        refine ⟨_, rfl, a, _, 6, v6, rfl, rfl, hS, atI_nat (j := 6) rfl, ?_⟩
        refine ⟨_, rfl, a, _, 7, v7, rfl, rfl, hS, atI_nat (j := 7) rfl, ?_⟩
        refine ⟨_, rfl, a, _, 8, v8, rfl, rfl, hS, atI_nat (j := 8) rfl, ?_⟩
        refine ⟨_, rfl, a, _, 9, v9, rfl, rfl, hS, atI_nat (j := 9) rfl, ?_⟩
        refine ⟨_, rfl, a, _, 10, v10, rfl, rfl, hS, atI_nat (j := 10) rfl, ?_⟩
        refine ⟨_, rfl, a, _, 11, v11, rfl, rfl, hS, atI_nat (j := 11) rfl, ?_⟩
        refine ⟨_, rfl, a, _, 12, v12, rfl, rfl, hS, atI_nat (j := 12) rfl, ?_⟩
        refine ⟨_, rfl, a, _, 13, v13, rfl, rfl, hS, atI_nat (j := 13) rfl, ?_⟩
        refine ⟨_, rfl, a, _, 14, v14, rfl, rfl, hS, atI_nat (j := 14) rfl, ?_⟩
        refine ⟨_, rfl, a, _, 15, v15, rfl, rfl, hS, atI_nat (j := 15) rfl, ?_⟩
        refine ⟨_, rfl, a, _, 16, v16, rfl, rfl, hS, atI_nat (j := 16) rfl, ?_⟩
        refine ⟨_, rfl, a, _, 17, v17, rfl, rfl, hS, atI_nat (j := 17) rfl, ?_⟩
        refine ⟨_, rfl, a, _, 18, v18, rfl, rfl, hS, atI_nat (j := 18) rfl, ?_⟩
        refine ⟨_, rfl, a, _, 19, v19, rfl, rfl, hS, atI_nat (j := 19) rfl, ?_⟩
        exact fun x dx hx hdx ne => m.want x dx hx hdx ne
    · match xs, hl, hS, m with
      | [v0, v1, v2, v3, v4, v5, v6, v7, v8, v9, v10, v11, v12, v13, v14, v15, v16, v17, v18, v19, v20], _, hS, m =>
        refine ⟨_, rfl, .ref a, _, rfl, .inl ⟨_, hS, rfl⟩, rfl, _, rfl, iteF ?_⟩
        refine ⟨_, rfl, .ref a, _, rfl, .inl ⟨_, hS, rfl⟩, rfl, _, rfl, iteF ?_⟩
        refine ⟨_, rfl, .ref a, _, rfl, .inl ⟨_, hS, rfl⟩, rfl, _, rfl, iteF ?_⟩
        refine ⟨_, rfl, .ref a, _, rfl, .inl ⟨_, hS, rfl⟩, rfl, _, rfl, iteF ?_⟩
        refine ⟨_, rfl, .ref a, _, rfl, .inl ⟨_, hS, rfl⟩, rfl, _, rfl, iteF ?_⟩
        refine ⟨_, rfl, a, _, 0, v0, rfl, rfl, hS, atI_nat (j := 0) rfl, ?_⟩
        refine ⟨_, rfl, a, _, 1, v1, rfl, rfl, hS, atI_nat (j := 1) rfl, ?_⟩
        refine ⟨_, rfl, a, _, 2, v2, rfl, rfl, hS, atI_nat (j := 2) rfl, ?_⟩
        refine ⟨_, rfl, a, _, 3, v3, rfl, rfl, hS, atI_nat (j := 3) rfl, ?_⟩
        refine ⟨_, rfl, a, _, 4, v4, rfl, rfl, hS, atI_nat (j := 4) rfl, ?_⟩
        refine ⟨_, rfl, a, _, 5, v5, rfl, rfl, hS, atI_nat (j := 5) rfl, ?_⟩
        refine ⟨_, rfl, a, _, 6, v6, rfl, rfl, hS, atI_nat (j := 6) rfl, ?_⟩
        refine ⟨_, rfl, a, _, 7, v7, rfl, rfl, hS, atI_nat (j := 7) rfl, ?_⟩
        refine ⟨_, rfl, a, _, 8, v8, rfl, rfl, hS, atI_nat (j := 8) rfl, ?_⟩
        refine ⟨_, rfl, a, _, 9, v9, rfl, rfl, hS, atI_nat (j := 9) rfl, ?_⟩
        refine ⟨_, rfl, a, _, 10, v10, rfl, rfl, hS, atI_nat (j := 10) rfl, ?_⟩
        refine ⟨_, rfl, a, _, 11, v11, rfl, rfl, hS, atI_nat (j := 11) rfl, ?_⟩
        refine ⟨_, rfl, a, _, 12, v12, rfl, rfl, hS, atI_nat (j := 12) rfl, ?_⟩
        refine ⟨_, rfl, a, _, 13, v13, rfl, rfl, hS, atI_nat (j := 13) rfl, ?_⟩
        refine ⟨_, rfl, a, _, 14, v14, rfl, rfl, hS, atI_nat (j := 14) rfl, ?_⟩
        refine ⟨_, rfl, a, _, 15, v15, rfl, rfl, hS, atI_nat (j := 15) rfl, ?_⟩
        refine ⟨_, rfl, a, _, 16, v16, rfl, rfl, hS, atI_nat (j := 16) rfl, ?_⟩
        refine ⟨_, rfl, a, _, 17, v17, rfl, rfl, hS, atI_nat (j := 17) rfl, ?_⟩
        refine ⟨_, rfl, a, _, 18, v18, rfl, rfl, hS, atI_nat (j := 18) rfl, ?_⟩
        refine ⟨_, rfl, a, _, 19, v19, rfl, rfl, hS, atI_nat (j := 19) rfl, ?_⟩
        refine ⟨_, rfl, a, _, 20, v20, rfl, rfl, hS, atI_nat (j := 20) rfl, ?_⟩
        exact fun x dx hx hdx ne => m.want x dx hx hdx ne
theorem ok_drop {C CE fI : Addr} (D : DefIn K mg "_law_drop" sDrop) (B : Blt mg) (g : mg "Drop" = some (.ref C)) (M : Mk K C fI) (F : FnR P w K mg base (L2.CX P w) 5 fI (spInitDrop K C CE)) :
    Ok P w K mg base "_law_drop" (defArgs sDrop) ["_law_row"] 7 (spMake K C CE) := by
  refine D.ok scDrop (fun vs G Q E h => ?_) (fun _ _ _ _ _ _ us hl => match us, hl with | [_], _ => rfl) (fun f cdv A out t G vs Q E hr h => ?_)
  · obtain ⟨a, xs, rfl, _⟩ := h
    rfl
  · obtain ⟨a, xs, rfl, hS, hn, m⟩ := h
    refine ⟨_, (pss_cons (ps_if (pt_cmpR op_eq (pe_callB (r := rLen K) call_len (by rfl) B.n_len bt_len (pa_cons (pv 0) pa_nil)) pe_int (nomark _)) (pss_one (ps_ret (pe_makeS0 M F hr (takes_of rfl rfl rfl rfl) g))) pss_nil)
      (pss_cons (ps_if (pt_cmpR op_eq (pe_callB (r := rLen K) call_len (by rfl) B.n_len bt_len (pa_cons (pv 0) pa_nil)) pe_int (nomark _)) (pss_one (ps_ret (pe_makeS M F hr (takes_of rfl rfl rfl rfl) g (pa_cons (pe_ix ix_list (pv 0) pe_int (fun _ _ => rfl)) pa_nil)))) pss_nil)
      (pss_cons (ps_if (pt_cmpR op_eq (pe_callB (r := rLen K) call_len (by rfl) B.n_len bt_len (pa_cons (pv 0) pa_nil)) pe_int (nomark _)) (pss_one (ps_ret (pe_makeS M F hr (takes_of rfl rfl rfl rfl) g (pa_cons (pe_ix ix_list (pv 0) pe_int (fun _ _ => rfl)) (pa_cons (pe_ix ix_list (pv 0) pe_int (fun _ _ => rfl)) pa_nil))))) pss_nil)
      (pss_cons (ps_if (pt_cmpR op_eq (pe_callB (r := rLen K) call_len (by rfl) B.n_len bt_len (pa_cons (pv 0) pa_nil)) pe_int (nomark _)) (pss_one (ps_ret (pe_makeS M F hr (takes_of rfl rfl rfl rfl) g (pa_cons (pe_ix ix_list (pv 0) pe_int (fun _ _ => rfl)) (pa_cons (pe_ix ix_list (pv 0) pe_int (fun _ _ => rfl)) (pa_cons (pe_ix ix_list (pv 0) pe_int (fun _ _ => rfl)) pa_nil)))))) pss_nil)
      (pss_cons (ps_if (pt_cmpR op_eq (pe_callB (r := rLen K) call_len (by rfl) B.n_len bt_len (pa_cons (pv 0) pa_nil)) pe_int (nomark _)) (pss_one (ps_ret (pe_makeS M F hr (takes_of rfl rfl rfl rfl) g (pa_cons (pe_ix ix_list (pv 0) pe_int (fun _ _ => rfl)) (pa_cons (pe_ix ix_list (pv 0) pe_int (fun _ _ => rfl)) (pa_cons (pe_ix ix_list (pv 0) pe_int (fun _ _ => rfl)) (pa_cons (pe_ix ix_list (pv 0) pe_int (fun _ _ => rfl)) (pa_cons (pe_ix ix_list (pv 0) pe_int (fun _ _ => rfl)) (pa_cons (pe_ix ix_list (pv 0) pe_int (fun _ _ => rfl)) (pa_cons (pe_ix ix_list (pv 0) pe_int (fun _ _ => rfl)) (pa_cons (pe_ix ix_list (pv 0) pe_int (fun _ _ => rfl)) (pa_cons (pe_ix ix_list (pv 0) pe_int (fun _ _ => rfl)) (pa_cons (pe_ix ix_list (pv 0) pe_int (fun _ _ => rfl)) (pa_cons (pe_ix ix_list (pv 0) pe_int (fun _ _ => rfl)) (pa_cons (pe_ix ix_list (pv 0) pe_int (fun _ _ => rfl)) (pa_cons (pe_ix ix_list (pv 0) pe_int (fun _ _ => rfl)) (pa_cons (pe_ix ix_list (pv 0) pe_int (fun _ _ => rfl)) (pa_cons (pe_ix ix_list (pv 0) pe_int (fun _ _ => rfl)) (pa_cons (pe_ix ix_list (pv 0) pe_int (fun _ _ => rfl)) (pa_cons (pe_ix ix_list (pv 0) pe_int (fun _ _ => rfl)) (pa_cons (pe_ix ix_list (pv 0) pe_int (fun _ _ => rfl)) (pa_cons (pe_ix ix_list (pv 0) pe_int (fun _ _ => rfl)) (pa_cons (pe_ix ix_list (pv 0) pe_int (fun _ _ => rfl)) pa_nil))))))))))))))))))))))) pss_nil)
      (pss_one (ps_ret (pe_makeS M F hr (takes_of rfl rfl rfl rfl) g (pa_cons (pe_ix ix_list (pv 0) pe_int (fun _ _ => rfl)) (pa_cons (pe_ix ix_list (pv 0) pe_int (fun _ _ => rfl)) (pa_cons (pe_ix ix_list (pv 0) pe_int (fun _ _ => rfl)) (pa_cons (pe_ix ix_list (pv 0) pe_int (fun _ _ => rfl)) (pa_cons (pe_ix ix_list (pv 0) pe_int (fun _ _ => rfl)) (pa_cons (pe_ix ix_list (pv 0) pe_int (fun _ _ => rfl)) (pa_cons (pe_ix ix_list (pv 0) pe_int (fun _ _ => rfl)) (pa_cons (pe_ix ix_list (pv 0) pe_int (fun _ _ => rfl)) (pa_cons (pe_ix ix_list (pv 0) pe_int (fun _ _ => rfl)) (pa_cons (pe_ix ix_list (pv 0) pe_int (fun _ _ => rfl)) (pa_cons (pe_ix ix_list (pv 0) pe_int (fun _ _ => rfl)) (pa_cons (pe_ix ix_list (pv 0) pe_int (fun _ _ => rfl)) (pa_cons (pe_ix ix_list (pv 0) pe_int (fun _ _ => rfl)) (pa_cons (pe_ix ix_list (pv 0) pe_int (fun _ _ => rfl)) (pa_cons (pe_ix ix_list (pv 0) pe_int (fun _ _ => rfl)) (pa_cons (pe_ix ix_list (pv 0) pe_int (fun _ _ => rfl)) (pa_cons (pe_ix ix_list (pv 0) pe_int (fun _ _ => rfl)) (pa_cons (pe_ix ix_list (pv 0) pe_int (fun _ _ => rfl)) (pa_cons (pe_ix ix_list (pv 0) pe_int (fun _ _ => rfl)) (pa_cons (pe_ix ix_list (pv 0) pe_int (fun _ _ => rfl)) (pa_cons (pe_ix ix_list (pv 0) pe_int (fun _ _ => rfl)) pa_nil))))))))))))))))))))))))))))), ?_⟩
    have hl : ∃ n, xs.length = n ∧ n ∈ rowLens := ⟨_, rfl, hn⟩
    obtain ⟨n, hl, hn⟩ := hl
    simp only [List.mem_cons, List.not_mem_nil, or_false] at hn
    rcases hn with rfl | rfl | rfl | rfl | rfl | rfl
    · match xs, hl, hS, m with
      | [], _, hS, m =>
        refine ⟨_, rfl, .ref a, _, rfl, .inl ⟨_, hS, rfl⟩, rfl, _, rfl, iteT ?_⟩
        exact fun x dx hx hdx ne => m.wantDrop x dx hx hdx ne
    · match xs, hl, hS, m with
      | [v0], _, hS, m =>
        refine ⟨_, rfl, .ref a, _, rfl, .inl ⟨_, hS, rfl⟩, rfl, _, rfl, iteF ?_⟩
        refine ⟨_, rfl, .ref a, _, rfl, .inl ⟨_, hS, rfl⟩, rfl, _, rfl, iteT ?_⟩
        refine ⟨_, rfl, a, _, 0, v0, rfl, rfl, hS, atI_nat (j := 0) rfl, ?_⟩
        exact fun x dx hx hdx ne => m.wantDrop x dx hx hdx ne
    · match xs, hl, hS, m with
      | [v0, v1], _, hS, m =>
        refine ⟨_, rfl, .ref a, _, rfl, .inl ⟨_, hS, rfl⟩, rfl, _, rfl, iteF ?_⟩
        refine ⟨_, rfl, .ref a, _, rfl, .inl ⟨_, hS, rfl⟩, rfl, _, rfl, iteF ?_⟩
        refine ⟨_, rfl, .ref a, _, rfl, .inl ⟨_, hS, rfl⟩, rfl, _, rfl, iteT ?_⟩
        refine ⟨_, rfl, a, _, 0, v0, rfl, rfl, hS, atI_nat (j := 0) rfl, ?_⟩
        refine ⟨_, rfl, a, _, 1, v1, rfl, rfl, hS, atI_nat (j := 1) rfl, ?_⟩
        exact fun x dx hx hdx ne => m.wantDrop x dx hx hdx ne
    · match xs, hl, hS, m with
      | [v0, v1, v2], _, hS, m =>
        refine ⟨_, rfl, .ref a, _, rfl, .inl ⟨_, hS, rfl⟩, rfl, _, rfl, iteF ?_⟩
        refine ⟨_, rfl, .ref a, _, rfl, .inl ⟨_, hS, rfl⟩, rfl, _, rfl, iteF ?_⟩
        refine ⟨_, rfl, .ref a, _, rfl, .inl ⟨_, hS, rfl⟩, rfl, _, rfl, iteF ?_⟩
        refine ⟨_, rfl, .ref a, _, rfl, .inl ⟨_, hS, rfl⟩, rfl, _, rfl, iteT ?_⟩
        refine ⟨_, rfl, a, _, 0, v0, rfl, rfl, hS, atI_nat (j := 0) rfl, ?_⟩
        refine ⟨_, rfl, a, _, 1, v1, rfl, rfl, hS, atI_nat (j := 1) rfl, ?_⟩
        refine ⟨_, rfl, a, _, 2, v2, rfl, rfl, hS, atI_nat (j := 2) rfl, ?_⟩
        exact fun x dx hx hdx ne => m.wantDrop x dx hx hdx ne
    · match xs, hl, hS, m with
      | [v0, v1, v2, v3, v4, v5, v6, v7, v8, v9, v10, v11, v12, v13, v14, v15, v16, v17, v18, v19], _, hS, m =>
        refine ⟨_, rfl, .ref a, _, rfl, .inl ⟨_, hS, rfl⟩, rfl, _, rfl, iteF ?_⟩
        refine ⟨_, rfl, .ref a, _, rfl, .inl ⟨_, hS, rfl⟩, rfl, _, rfl, iteF ?_⟩
        refine ⟨_, rfl, .ref a, _, rfl, .inl ⟨_, hS, rfl⟩, rfl, _, rfl, iteF ?_⟩
        refine ⟨_, rfl, .ref a, _, rfl, .inl ⟨_, hS, rfl⟩, rfl, _, rfl, iteF ?_⟩
        refine ⟨_, rfl, .ref a, _, rfl, .inl ⟨_, hS, rfl⟩, rfl, _, rfl, iteT ?_⟩
        refine ⟨_, rfl, a, _, 0, v0, rfl, rfl, hS, atI_nat (j := 0) rfl, ?_⟩
        refine ⟨_, rfl, a, _, 1, v1, rfl, rfl, hS, atI_nat (j := 1) rfl, ?_⟩
        refine ⟨_, rfl, a, _, 2, v2, rfl, rfl, hS, atI_nat (j := 2) rfl, ?_⟩
        refine ⟨_, rfl, a, _, 3, v3, rfl, rfl, hS, atI_nat (j := 3) rfl, ?_⟩
        refine ⟨_, rfl, a, _, 4, v4, rfl, rfl, hS, atI_nat (j := 4) rfl, ?_⟩
        refine ⟨_, rfl, a, _, 5, v5, rfl, rfl, hS, atI_nat (j := 5) rfl, ?_⟩
        refine ⟨_, rfl, a, _, 6, v6, rfl, rfl, hS, atI_nat (j := 6) rfl, ?_⟩
        refine ⟨_, rfl, a, _, 7, v7, rfl, rfl, hS, atI_nat (j := 7) rfl, ?_⟩
        refine ⟨_, rfl, a, _, 8, v8, rfl, rfl, hS, atI_nat (j := 8) rfl, ?_⟩
        refine ⟨_, rfl, a, _, 9, v9, rfl, rfl, hS, atI_nat (j := 9) rfl, ?_⟩
        refine ⟨_, rfl, a, _, 10, v10, rfl, rfl, hS, atI_nat (j := 10) rfl, ?_⟩
        refine ⟨_, rfl, a, _, 11, v11, rfl, rfl, hS, atI_nat (j := 11) rfl, ?_⟩
        refine ⟨_, rfl, a, _, 12, v12, rfl, rfl, hS, atI_nat (j := 12) rfl, ?_⟩
        refine ⟨_, rfl, a, _, 13, v13, rfl, rfl, hS, atI_nat (j := 13) rfl, ?_⟩
        refine ⟨_, rfl, a, _, 14, v14, rfl, rfl, hS, atI_nat (j := 14) rfl, ?_⟩
        refine ⟨_, rfl, a, _, 15, v15, rfl, rfl, hS, atI_nat (j := 15) rfl, ?_⟩
        refine ⟨_, rfl, a, _, 16, v16, rfl, rfl, hS, atI_nat (j := 16) rfl, ?_⟩
        refine ⟨_, rfl, a, _, 17, v17, rfl, rfl, hS, atI_nat (j := 17) rfl, ?_⟩
        refine ⟨_, rfl, a, _, 18, v18, rfl, rfl, hS, atI_nat (j := 18) rfl, ?_⟩
        refine ⟨_, rfl, a, _, 19, v19, rfl, rfl, hS, atI_nat (j := 19) rfl, ?_⟩
        exact fun x dx hx hdx ne => m.wantDrop x dx hx hdx ne
    · match xs, hl, hS, m with
      | [v0, v1, v2, v3, v4, v5, v6, v7, v8, v9, v10, v11, v12, v13, v14, v15, v16, v17, v18, v19, v20], _, hS, m =>
        refine ⟨_, rfl, .ref a, _, rfl, .inl ⟨_, hS, rfl⟩, rfl, _, rfl, iteF ?_⟩
        refine ⟨_, rfl, .ref a, _, rfl, .inl ⟨_, hS, rfl⟩, rfl, _, rfl, iteF ?_⟩
        refine ⟨_, rfl, .ref a, _, rfl, .inl ⟨_, hS, rfl⟩, rfl, _, rfl, iteF ?_⟩
        refine ⟨_, rfl, .ref a, _, rfl, .inl ⟨_, hS, rfl⟩, rfl, _, rfl, iteF ?_⟩
        refine ⟨_, rfl, .ref a, _, rfl, .inl ⟨_, hS, rfl⟩, rfl, _, rfl, iteF ?_⟩
        refine ⟨_, rfl, a, _, 0, v0, rfl, rfl, hS, atI_nat (j := 0) rfl, ?_⟩
        refine ⟨_, rfl, a, _, 1, v1, rfl, rfl, hS, atI_nat (j := 1) rfl, ?_⟩
        refine ⟨_, rfl, a, _, 2, v2, rfl, rfl, hS, atI_nat (j := 2) rfl, ?_⟩
        refine ⟨_, rfl, a, _, 3, v3, rfl, rfl, hS, atI_nat (j := 3) rfl, ?_⟩
        refine ⟨_, rfl, a, _, 4, v4, rfl, rfl, hS, atI_nat (j := 4) rfl, ?_⟩
        refine ⟨_, rfl, a, _, 5, v5, rfl, rfl, hS, atI_nat (j := 5) rfl, ?_⟩
        refine ⟨_, rfl, a, _, 6, v6, rfl, rfl, hS, atI_nat (j := 6) rfl, ?_⟩
        refine ⟨_, rfl, a, _, 7, v7, rfl, rfl, hS, atI_nat (j := 7) rfl, ?_⟩
        refine ⟨_, rfl, a, _, 8, v8, rfl, rfl, hS, atI_nat (j := 8) rfl, ?_⟩
        refine ⟨_, rfl, a, _, 9, v9, rfl, rfl, hS, atI_nat (j := 9) rfl, ?_⟩
        refine ⟨_, rfl, a, _, 10, v10, rfl, rfl, hS, atI_nat (j := 10) rfl, ?_⟩
        refine ⟨_, rfl, a, _, 11, v11, rfl, rfl, hS, atI_nat (j := 11) rfl, ?_⟩
        refine ⟨_, rfl, a, _, 12, v12, rfl, rfl, hS, atI_nat (j := 12) rfl, ?_⟩
        refine ⟨_, rfl, a, _, 13, v13, rfl, rfl, hS, atI_nat (j := 13) rfl, ?_⟩
        refine ⟨_, rfl, a, _, 14, v14, rfl, rfl, hS, atI_nat (j := 14) rfl, ?_⟩
        refine ⟨_, rfl, a, _, 15, v15, rfl, rfl, hS, atI_nat (j := 15) rfl, ?_⟩
        refine ⟨_, rfl, a, _, 16, v16, rfl, rfl, hS, atI_nat (j := 16) rfl, ?_⟩
        refine ⟨_, rfl, a, _, 17, v17, rfl, rfl, hS, atI_nat (j := 17) rfl, ?_⟩
        refine ⟨_, rfl, a, _, 18, v18, rfl, rfl, hS, atI_nat (j := 18) rfl, ?_⟩
        refine ⟨_, rfl, a, _, 19, v19, rfl, rfl, hS, atI_nat (j := 19) rfl, ?_⟩
        refine ⟨_, rfl, a, _, 20, v20, rfl, rfl, hS, atI_nat (j := 20) rfl, ?_⟩
        exact fun x dx hx hdx ne => m.wantDrop x dx hx hdx ne
end
end K03
set_option Elab.async false
set_option linter.all false
set_option maxRecDepth 100000
set_option maxHeartbeats 8000000
namespace K03
open PySem PySem.Spec PyProof.Rows L2 TL Qh Qi Ql ClX
/-- the i-th slot holds a def that keeps sp; errors may come -/
structure HeldS (P : Program) (w : World) (K : PySem.W.Frag) (mg : Str → Option Value) (base : Heap) (k : Nat) (f : Addr) (sp : Sp) : Prop where
  ex : ∃ (fd : FuncData) (ps : List Str), FnOk P w K mg base (L2.CX P w) k f fd ps sp ∧ PySem.W.keepIn K (.ref f) = true ∧ Binds K fd ps []
def tCallHS (i : Nat) (S : Addr → Sp → Prop) (E : L2.St → XK) (t : TA) : TE := fun σ H Q => ∃ f sp, σ[i]? = some (some (.ref f)) ∧ S f sp ∧ t σ H fun vs H1 => sp vs H1 Q (E σ)
theorem pe_callHS {X : Cx} {W : WX} {k i : Nat} {x : Str} {p pos : Pos} {e : Expr} {es : List Expr} {t : TA} {S : Addr → Sp → Prop} (A : ∀ f sp, S f sp → HeldS X.prog X.w X.K X.mg X.base k f sp) (hr : Room k X.A) (tk : Takes X W) (hN : X.N[i]? = some x) (hv : Vis X.env.scope x) (ha : PA X (e :: es) t)
    (hdb : (x == ("__debug__" : Str)) = false := by decide) (hcd : (x == ("__classdict__" : Str)) = false := by decide)
    (he : starEach (e :: es) X.env = (false, eval e X.env) :: starEach es X.env := by rfl) (hpl : (backTo pos (starEach es X.env)).any (·.1) = false := by rfl) : PE X (.Call (.Name x p) (e :: es) [] pos) (tCallHS i S (WE W) t) := by
  refine ⟨fun pins s σ H Q I h => ?_⟩
  obtain ⟨f, sp, hs, hS, ht⟩ := h
  obtain ⟨fd, ps, F, hk, hb⟩ := (A f sp hS).ex
  refine wpAny_Call_Name_kw (thn ((pe_var (pos := p) hN hv hdb hcd).run pins s σ H (fun v H1 => v = .ref f ∧ H1 = H) I ⟨.ref f, hs, rfl, rfl⟩) fun u s1 ⟨v, H1, I1, r1, q1⟩ => ?_)
  obtain ⟨rfl, rfl⟩ := q1
  cases r1
  refine PySem.W.callWith_K (h₀ := X.base) I.ok.mod.kin hk (thn (ha.run pos pins s1 σ _ _ I1 ht) fun us s2 ⟨vs, H2, I2, r, q⟩ => ⟨I2.kIn, ?_⟩) he hpl
  exact run_fnS (E := WE W) F hr hb (passAt tk σ) I2 r q
abbrev sResS : Stmt := inClass (top 13) 2
abbrev sResD : Stmt := inClass (top 14) 1
abbrev sHeard : Stmt := top 22
def hole : Str := Str.ofString "*"
/-- what comes out of a word or of none: w where the word is one of ss -/
def resV (ss : List Str) (w v : V) : V := if inV v (ss.map V.str) then w else v
def spResult (C : Addr) (w : V) : Sp := fun vs G Q _ => ∃ (a : Addr) (ss : List Str) (v : V), vs = [.ref a, v] ∧ StepAt C G a ss ∧ flatV v = true ∧ Q (resV ss w v) G
theorem flat_strs (l : List Str) : (l.map V.str).all flatV = true := by
  rw [List.all_map]
  exact List.all_eq_true.mpr fun _ _ => rfl
def spHeard (K : PySem.W.Frag) (S : Addr → Prop) : Sp := fun vs G Q _ => ∃ (g a : Addr) (xs : List V), vs = [.ref g, .ref a] ∧ S g ∧ SqL K G a xs ∧ xs.length ∈ rowLens ∧ (∀ v ∈ xs, ∀ G', Same G G' → Known K G' v) ∧
  (dueX xs = none → ∀ G', Same G G' → Q .non G') ∧ (∀ reason i, dueX xs = some (reason, i) → ∀ q G', Same G G' → G' q = some (.tup [.str reason, ixV i]) → Q (.ref q) G')
section
variable {P : Program} {w : World} {K : PySem.W.Frag} {mg : Str → Option Value} {base : Heap}
theorem scResS : FnScope ["self", "value"] ["self", "value"] (defScope sResS) := ⟨rfl, rfl, rfl, by decide +kernel, rfl, by decide +kernel, by decide +kernel⟩
theorem scResD : FnScope ["self", "value"] ["self", "value"] (defScope sResD) := ⟨rfl, rfl, rfl, by decide +kernel, rfl, by decide +kernel, by decide +kernel⟩
theorem ok_resS {C f : Addr} {fd : FuncData} (F : Fun K "result" "Stop.result" sResS f fd) (W : InsW K C) (hH : ∃ t, mg "HOLE" = some (.str hole t)) : FnOk P w K mg base (L2.CX P w) 1 f fd ["self", "value"] (spResult C (.str hole)) := by
  obtain ⟨tH, hH⟩ := hH
  refine F.okX scResS (fun vs G Q E h => ?_) (fun cdv A out t G vs Q E hr h => ?_)
  · obtain ⟨a, ss, v, rfl, _⟩ := h
    rfl
  · obtain ⟨a, ss, v, rfl, ⟨dx, D1, h1, h2⟩, fv, k⟩ := h
    refine ⟨_, pss_one (ps_ret (pe_ifExp (pt_cmpR op_in_seq (pv 1) (pe_fld (pv 0) rfl) (by rfl)) (pe_glob (v := .str hole) rfl hH ⟨_, rfl⟩) (pv 1))), ?_⟩
    refine ⟨_, rfl, _, rfl, a, C, dx, _, _, rfl, h1, W.cl, W.n1, rfl, D1, _, rfl, .inr (SqT.of h2), fv, flat_strs ss, _, rfl, ?_⟩
    unfold resV at k
    refine ite2 (fun h => ?_) (fun h => ?_)
    · have h : inV v (ss.map V.str) = true := h
      rw [if_pos h] at k
      exact k
    · have h : ¬ inV v (ss.map V.str) = true := h
      rw [if_neg h] at k
      exact ⟨_, rfl, k⟩
theorem ok_resD {C f : Addr} {fd : FuncData} (F : Fun K "result" "Drop.result" sResD f fd) (W : InsW K C) : FnOk P w K mg base (L2.CX P w) 1 f fd ["self", "value"] (spResult C .non) := by
  refine F.okX scResD (fun vs G Q E h => ?_) (fun cdv A out t G vs Q E hr h => ?_)
  · obtain ⟨a, ss, v, rfl, _⟩ := h
    rfl
  · obtain ⟨a, ss, v, rfl, ⟨dx, D1, h1, h2⟩, fv, k⟩ := h
    refine ⟨_, pss_one (ps_ret (pe_ifExp (pt_cmpR op_in_seq (pv 1) (pe_fld (pv 0) rfl) (by rfl)) pe_non (pv 1))), ?_⟩
    refine ⟨_, rfl, _, rfl, a, C, dx, _, _, rfl, h1, W.cl, W.n1, rfl, D1, _, rfl, .inr (SqT.of h2), fv, flat_strs ss, _, rfl, ?_⟩
    unfold resV at k
    refine ite2 (fun h => ?_) (fun h => ?_)
    · have h : inV v (ss.map V.str) = true := h
      rw [if_pos h] at k
      exact k
    · have h : ¬ inV v (ss.map V.str) = true := h
      rw [if_neg h] at k
      exact ⟨_, rfl, k⟩
theorem scHeard : FnScope ["_law_ask", "_law_row", "_law_caught", "error"] ["_law_ask", "_law_row"] (defScope sHeard) := ⟨rfl, rfl, rfl, by decide +kernel, rfl, by decide +kernel, by decide +kernel⟩
/-- the defs that are asked: the law's own stop at fs, its drop at fd -/
def asked (K : PySem.W.Frag) (CS CD CE fs fd : Addr) (f : Addr) (sp : Sp) : Prop := (f = fs ∧ sp = spMake K CS CE) ∨ (f = fd ∧ sp = spMake K CD CE)
theorem ok_heard {CS CD CE CQ fs fdp : Addr} (D : DefIn K mg "_law_heard" sHeard) (B : Blt mg) (TE : ErrN P w K mg base "InvalidStep" ["reason", "index"] CE) (gQ : mg "QuoteError" = some (.ref CQ)) (ex : PySem.W.exmOne K (.ref CE) (.ref CQ) = some true) (ki : PySem.W.kitOne K (.ref CE) (.ref CE) = some true)
    (A1 : ∀ f sp, asked K CS CD CE fs fdp f sp → HeldS P w K mg base 7 f sp) :
    Ok P w K mg base "_law_heard" (defArgs sHeard) ["_law_ask", "_law_row"] 8 (spHeard K fun g => g = fs ∨ g = fdp) := by
  refine D.ok scHeard (fun vs G Q E h => ?_) (fun _ _ _ _ _ _ us hl => match us, hl with | [_, _], _ => rfl) (fun f cdv A out t G vs Q E hr h => ?_)
  · obtain ⟨g, a, xs, rfl, _⟩ := h
    rfl
  · obtain ⟨g, a, xs, rfl, hg, hS, hn, hk, kN, kS⟩ := h
    refine ⟨_, (pss_cons (ps_set (i := 2) scHeard.nd rfl (by first | exact Or.inl rfl | exact Or.inr rfl) pe_non)
      (pss_cons (ps_try_held (i := 3) (j := 2) rfl rfl rfl scHeard.nd rfl rfl rfl rfl (by decide) (by decide) rfl ⟨rfl, by decide, .inl gQ⟩ takes0
        (fun W pn xe tk _ => pss_one (ps_expr (pe_callHS (i := 0) A1 hr tk rfl (by first | exact Or.inl rfl | exact Or.inr rfl) (pa_cons (pv 1) pa_nil)))))
      (pss_cons (ps_if (pt_cmpR op_isN (pv 2) pe_non (nomark _)) (pss_one (ps_ret pe_non)) pss_nil)
      (pss_one (ps_ret (pe_ifExp (pt_val (pe_callB call_errIs (by rfl) B.n_isinstance bt_isinstance (pa_cons (pv 2) (pa_cons (pe_glob (v := .ref CE) rfl TE.c.g rfl) pa_nil)))) (pn_tup (pa_cons (pe_errF (pv 2)) (pa_cons (pe_errF (pv 2)) pa_nil))) (pn_tup (pa_cons pe_str (pa_cons pe_non pa_nil))))))))), ?_⟩
    have len8 : xs.length ≤ 21 := by
      simp only [List.mem_cons, List.not_mem_nil, or_false] at hn
      omega
    obtain ⟨CI, hask⟩ : ∃ CI, asked K CS CD CE fs fdp g (spMake K CI CE) := by
      rcases hg with rfl | rfl
      · exact ⟨CS, .inl ⟨rfl, rfl⟩⟩
      · exact ⟨CD, .inr ⟨rfl, rfl⟩⟩
    refine ⟨g, _, rfl, hask, _, rfl, a, xs, rfl, hS, hn, hk, by omega, fun reason i due d G' es => ?_, fun ts due e1 x ss G' nx sm sa a1 => ?_⟩
    · refine ⟨true, ex, fun _ b hb => ?_, fun z => nomatch z⟩
      have db : d ≠ b := ne_of_none es.2.2 hb
      have hd' : (L2.upd G' b (exk (.ref CE) (some d) b)) d = some (.xd [("index", ixV i), ("reason", .str reason)]) := by
        rw [upd_ne db]
        exact es.2.2
      refine ⟨_, rfl, rfl, _, rfl, iteF ?_⟩
      refine ⟨_, rfl, b, CE, d, _, .ref CE, .ref CE, true, rfl, upd_same, hd', TE.c.ec, fun u r => r, ki, _, rfl, ?_⟩
      refine iteT ⟨_, rfl, b, CE, d, _, _, rfl, upd_same, hd', TE.c.xf, TE.no _ List.mem_cons_self, rfl, _, rfl, b, CE, d, _, _, rfl, upd_same, hd', TE.c.xf, TE.no _ (List.mem_cons_of_mem _ List.mem_cons_self), rfl, by show 2 ≤ sizeLine; decide, fun p G2 np s2 hp => ?_⟩
      exact kS reason i due p G2 ((es.2.1.trans (Qh.Same.new hb)).trans s2) hp
    · refine ⟨_, rfl, rfl, _, rfl, iteT ?_⟩
      exact kN due G' sm
end
end K03
set_option Elab.async false
set_option linter.all false
set_option maxRecDepth 100000
set_option maxHeartbeats 8000000
namespace K03
open PySem PySem.Spec PyProof.Rows L2 TL Qh Qi Ql ClX
abbrev sPool : Stmt := top 19
abbrev sResR : Stmt := top 23
def poolS : List Str := [Str.ofString "on", Str.ofString "the", Str.ofString "a", Str.ofString "of", Str.ofString "cat", Str.ofString "zzzzzzzzzz", Str.ofString "in", Str.ofString "self", Str.ofString "bank", Str.ofString "x", Str.ofString "stop", Str.ofString "drop", Str.ofString "none", Str.ofString "q"]
def spPool : Sp := fun vs G Q _ => vs = [] ∧ ∀ q G', G q = none → Same G G' → G' q = some (.lst (poolS.map V.str)) → Q (.ref q) G'
/-- o.m(k = v) -/
def tMethK (C : Addr) (m : Str) (sp : Sp) (E : L2.St → XK) (ta : TE) (tk : TA) : TE := fun σ H Q => ta σ H fun x H1 => ∃ a dx fs, x = .ref a ∧ H1 a = some (.ins C dx fs) ∧ fs.lookup m = none ∧ tk σ H1 fun zs H2 => sp (x :: zs) H2 Q (E σ)
section
variable {X : Cx} {W : WX} {k : Nat} {f C : Addr} {fd : FuncData} {ps ks : List Str} {sp : Sp} {m : Str} {o : Expr} {kws : List Keyword} {ta : TE} {tk : TA} {apos pos : Pos}
theorem pe_methK {pl : Sem Bool} (he : PE X o ta) (c : Cls X.K C) (hm : Meth X.K C m f) (F : FnOk X.prog X.w X.K X.mg X.base (L2.CX X.prog X.w) k f fd ps sp) (hr : Room k X.A) (hb : ∀ (u : Value) (ws : List Value), ws.length + 1 = ps.length → bindArgs fd ⟨[u], ks.zip ws⟩ = pure (ps.zip (u :: ws))) (tks : Takes X W) (hkw : PK X kws tk)
    (hall : (backToKw pos (keywordEach kws X.env)).all (·.1.isSome) = true := by rfl) (hks : (backToKw pos (keywordEach kws X.env)).filterMap (·.1) = ks := by rfl)
    (hpl : ((backTo pos (starEach [] X.env)).any (·.1) || (backToKw pos (keywordEach kws X.env)).any (·.1.isNone)) = false := by rfl)
    (ht : eval (.Call (.Attribute o m apos) [] kws pos) X.env = (do
      let ov ← eval o X.env
      standAt apos.atName
      let (f, first) ← holding [ov] (getMethod ov m pl)
      callWith pos f first (backTo pos (starEach [] X.env)) (backToKw pos (keywordEach kws X.env))) := by rfl) :
    PE X (.Call (.Attribute o m apos) [] kws pos) (tMethK C m sp (WE W) ta tk) := by
  refine ⟨fun pins s σ H Q I h => ?_⟩
  refine PySem.W.methodCall_KW (pl := pl) (thn (he.run pins s σ H _ I h) fun u s1 ⟨x, H1, I1, rx, a, dx, fs, ex, ea, l, q⟩ => ?_) ht
  subst ex
  obtain rfl : u = Value.ref a := rx
  refine getmeth_ok I1 ea c hm l ?_
  refine PySem.W.callWith_KW0 (first := [.ref a]) (h₀ := X.base) I.ok.mod.kin hm.kp hall ?_ hpl
  refine thn (hkw.run pos pins s1 σ H1 _ I1 q) ?_
  rintro ws s2 ⟨zs, H2, I2, rz, q2⟩
  refine ⟨I2.kIn, ?_⟩
  rw [hks]
  have r2 : Vals (V.ref a :: zs) (Value.ref a :: ws) := .cons rfl rz
  have hl : ws.length + 1 = ps.length := by
    have h1 := F.len _ _ _ _ q2
    rw [List.length_cons] at h1
    rw [← rz.length]
    exact h1
  refine wpAny_call (codeAny_mono (F.run X.A X.stack s2 H2 ⟨[.ref a], ks.zip ws⟩ (.ref a :: ws) (.ref a :: zs) Q (WE W σ) hr I2.env0 (BindsTo.of_eq (hb _ ws hl)) r2 q2) ?_)
  rintro (e | fl) s' hq
  · exact passAt tks σ pins H2 s2 e s' I2 hq
  · cases fl with
    | ret u => exact I2.after hq
    | next => exact hq.elim
    | brk => exact hq.elim
    | cont => exact hq.elim
end
/-- what == and isinstance ask of a class -/
structure InsT (K : PySem.W.Frag) (C : Addr) : Prop where
  cl : Cls K C
  ha : PySem.W.findIn K (.ref C) "__class__" = some (some (.builtin "object.__class__"))
  hn : PySem.W.specialIn K (.builtin "object.__class__") "__get__" = some (some (.builtin "getset_descriptor.__get__"))
  htk : PySem.W.takesIn K (.builtin "object.__class__") = some true
  hm : PySem.W.mroIn K C (.type "object") = some true
theorem InsT.ty {K : PySem.W.Frag} {C a dx : Addr} {G : Hp} {fs : List (Str × V)} (T : InsT K C) (h : G a = some (.ins C dx fs)) : TyX K G (.ref a) (.ref C) := .base (.ins h T.cl T.ha T.hn T.htk T.hm)
theorem inV_strs (y : Str) : ∀ l : List Str, inV (.str y) (l.map V.str) = decide (y ∈ l)
  | [] => rfl
  | a :: l => by
    show ((a == y) || inV (.str y) (l.map V.str)) = _
    rw [inV_strs y l]
    by_cases h : a = y
    · subst h
      simp
    · have : (a == y) = false := by simpa using h
      rw [this, Bool.false_or]
      by_cases h2 : y ∈ l
      · rw [decide_eq_true h2, decide_eq_true (List.mem_cons_of_mem _ h2)]
      · rw [decide_eq_false h2, decide_eq_false fun z => (List.mem_cons.mp z).elim (fun e => h e.symm) h2]
theorem iteE' {c : Bool} {A B : Prop} (hc : c = false) (h : B) : if c = true then A else B := by
  subst hc
  exact h
theorem iteT' {c : Bool} {A B : Prop} (hc : c = true) (h : A) : if c = true then A else B := by
  subst hc
  exact h
/-- the method result of the class at C, w what comes of its words -/
structure ResM (P : Program) (w : World) (K : PySem.W.Frag) (mg : Str → Option Value) (base : Heap) (C : Addr) (wv : V) : Prop where
  W : InsW K C
  I : InsT K C
  rs : ∃ f fd, Meth K C "result" f ∧ Binds K fd ["self", "value"] [] ∧ (∀ (u : Value) (ws : List Value), ws.length + 1 = 2 → bindArgs fd ⟨[u], ([Str.ofString "value"] : List Str).zip ws⟩ = pure ((["self", "value"] : List Str).zip (u :: ws))) ∧ FnOk P w K mg base (L2.CX P w) 1 f fd ["self", "value"] (spResult C wv)
def okRow (row : List Str) : Prop := row.length ≤ 20 ∧ 1 ≤ row.length ∧ ∀ e ∈ row, e ∈ poolS
def spResR (K : PySem.W.Frag) (C : Addr) (wv : V) : Sp := fun vs G Q _ => ∃ (m ar : Addr) (row ss : List Str), vs = [.ref m, .ref ar, wv] ∧ StepAt C G m ss ∧ G ar = some (.lst (row.map V.str)) ∧ okRow row ∧ Qs.Asc row ss ∧ ∀ G', Same G G' → Q (.bl true) G'
abbrev rightN : List Str := ["_law_made", "_law_row", "_law_wanted", "_law_thing", "_law_due"]
theorem pool_txt : ∀ y ∈ poolS, txt y = true ∧ y.length ≤ 10 ∧ wordS y = true := by
  have h : poolS.all (fun y => txt y && (decide (y.length ≤ 10) && wordS y)) = true := by decide +kernel
  intro y hy
  have := List.all_eq_true.mp h y hy
  obtain ⟨a, b⟩ := Bool.and_eq_true_iff.mp this
  obtain ⟨b, c⟩ := Bool.and_eq_true_iff.mp b
  exact ⟨a, of_decide_eq_true b, c⟩
section
variable {P : Program} {w : World} {K : PySem.W.Frag} {mg : Str → Option Value} {base : Heap}
theorem scPool : FnScope [] [] (defScope sPool) := ⟨rfl, rfl, rfl, by decide +kernel, rfl, by decide +kernel, by decide +kernel⟩
theorem ok_pool (D : DefIn K mg "_law_pool" sPool) : Ok P w K mg base "_law_pool" (defArgs sPool) [] 1 spPool := by
  refine D.ok scPool (fun vs G Q E h => ?_) (fun _ _ _ _ _ _ us hl => match us, hl with | [], _ => rfl) (fun f cdv A out t G vs Q E hr h => ?_)
  · obtain ⟨rfl, _⟩ := h
    rfl
  · obtain ⟨rfl, k⟩ := h
    exact ⟨_, pss_one (ps_ret (pn_lst (pa_cons pe_str (pa_cons pe_str (pa_cons pe_str (pa_cons pe_str (pa_cons pe_str (pa_cons pe_str (pa_cons pe_str (pa_cons pe_str (pa_cons pe_str (pa_cons pe_str (pa_cons pe_str (pa_cons pe_str (pa_cons pe_str (pa_cons pe_str pa_nil)))))))))))))))), by show 14 ≤ sizeLine; decide, fun q G' n s l => k q G' n s l⟩
theorem scResR : FnScope rightN ["_law_made", "_law_row", "_law_wanted"] (defScope sResR) := ⟨rfl, rfl, rfl, by decide +kernel, rfl, by decide +kernel, by decide +kernel⟩
theorem ok_resR {C : Addr} {wv : V} (hwv : wv = .str hole ∨ wv = .non) (D : DefIn K mg "_law_results_right" sResR) (B : Blt mg) (M : ResM P w K mg base C wv) (F__law_pool : Ok P w K mg base "_law_pool" (defArgs sPool) [] 1 spPool) :
    Ok P w K mg base "_law_results_right" (defArgs sResR) ["_law_made", "_law_row", "_law_wanted"] 3 (spResR K C wv) := by
  refine D.ok scResR (fun vs G Q E h => ?_) (fun _ _ _ _ _ _ us hl => match us, hl with | [_, _, _], _ => rfl) (fun f cdv A out t G vs Q E hr h => ?_)
  · obtain ⟨m, ar, row, ss, rfl, _⟩ := h
    rfl
  · obtain ⟨m, ar, row, ss, rfl, at0, hrow, okr, asc, k⟩ := h
    have hu64 := hr.units
    obtain ⟨fR, fdR, MR, bR, bK, FR⟩ := M.rs
    have W := M.W
    refine ⟨_, (pss_cons (ps_for (passes_of rfl) rfl (pi_list (pe_op on_cat (pe_own0 F__law_pool (hr.mono (by decide))) (pn_lst (pa_cons pe_str (pa_cons pe_str (pa_cons pe_str (pa_cons pe_non pa_nil))))))) (pg_name (i := 3) scResR.nd rfl (by first | exact Or.inl rfl | exact Or.inr rfl))
      (pss_cons (ps_set (i := 4) scResR.nd rfl (by first | exact Or.inl rfl | exact Or.inr rfl) (pe_ifExp (pt_cmpR op_in_seq (pv 3) (pv 1) (by rfl)) (pv 2) (pv 3)))
    (pss_one (ps_if (PW.pt (pw_or (pt_cmpR op_ne (pe_meth (pv 0) M.I.cl MR FR (hr.mono (by decide)) bR .nil passL (pa_cons (pv 3) pa_nil)) (pv 4) (nomark _)) (pw_or1 (pt_cmpR op_ne (pe_methK (pv 0) M.I.cl MR FR (hr.mono (by decide)) bK takes0 (pk_cons (pv 3) pk_nil)) (pv 4) (nomark _))))) (pss_one (ps_ret pe_bl)) pss_nil))))
    (pss_one (ps_ret (pe_and (pe_cmpR (op_eqD hu64) (pe_fld (pv 0) rfl) (pe_callTy cn_tuple (by rfl) B.n_tuple bt_tuple (pa_cons (pe_callB (Qs.call_sortX rfl) (by rfl) B.n_sorted bt_sorted (pa_cons (pe_callTy (Qs.call_setX rfl) (by rfl) B.n_set bt_set (pa_cons (pv 1) pa_nil)) pa_nil)) pa_nil)) (nomark _)) (pe_one (pe_callB call_isi (by rfl) B.n_isinstance bt_isinstance (pa_cons (pe_fld (pv 0) rfl) (pa_cons (pe_bltn (v := .ty "tuple") (by rfl) B.n_tuple bt_tuple rfl) pa_nil)))))))), ?_⟩
    refine ⟨rfl, fun q1 G1 n1 s1 l1 => ?_⟩
    refine ⟨by show 4 ≤ sizeLine; decide, fun q2 G2 n2 s2 l2 => ?_⟩
    refine ⟨q1, q2, _, _, rfl, rfl, s2 _ _ l1, l2, by show 14 + 4 ≤ sizeLine; decide, fun q3 G3 n3 s3 l3 => ?_⟩
    have S3 := (s1.trans s2).trans s3
    have row3 := S3 _ _ hrow
    have at3 := at0.same S3
    generalize hA : poolS.map V.str ++ [.str (Str.ofString "onn"), .str (Str.ofString "o"), .str (Str.ofString "*"), .non] = all at l3
    have flat : ∀ v ∈ all, flatV v = true ∧ (v = .non ∨ ∃ x, v = .str x) := fun v hv => by
      rw [← hA] at hv
      rcases List.mem_append.mp hv with hv | hv
      · obtain ⟨y, _, rfl⟩ := List.mem_map.mp hv
        exact ⟨rfl, .inr ⟨y, rfl⟩⟩
      · simp only [List.mem_cons, List.not_mem_nil, or_false] at hv
        rcases hv with rfl | rfl | rfl | rfl
        · exact ⟨rfl, .inr ⟨_, rfl⟩⟩
        · exact ⟨rfl, .inr ⟨_, rfl⟩⟩
        · exact ⟨rfl, .inr ⟨_, rfl⟩⟩
        · exact ⟨rfl, .inl rfl⟩
    clear hA l1 l2
    have inE : ∀ v, (v = .non ∨ ∃ x, v = .str x) → inV v (row.map V.str) = inV v (ss.map V.str) := fun v hv => by
      rcases hv with rfl | ⟨x, rfl⟩
      · have no : ∀ l : List Str, inV .non (l.map V.str) = false := fun l => by
          show (l.map V.str).any (fun y => eqV y .non) = false
          rw [List.any_map, List.any_eq_false]
          intro y _ h
          cases h
        rw [no, no]
      · rw [inV_strs, inV_strs]
        by_cases h : x ∈ row
        · rw [decide_eq_true h, decide_eq_true ((Qs.asc_mem asc x).mpr h)]
        · rw [decide_eq_false h, decide_eq_false fun z => h ((Qs.asc_mem asc x).mp z)]
    have scalE : ∀ v, (v = .non ∨ ∃ x, v = .str x) → scal v v = true := fun v hv => by
      rcases hv with rfl | ⟨x, rfl⟩
      · rfl
      · rfl
    refine ⟨q3, rfl, ⟨_, SqL.of l3⟩, for_it walk_list (fun i σ' G' => ∃ o3 o4, σ' = [some (.ref m), some (.ref ar), some wv, o3, o4] ∧ Same G3 G') ⟨none, none, rfl, Same.refl G3⟩ (fun i σ' G' _ ⟨_, _, _, sm⟩ => SqL.of (sm _ _ l3)) ?_ ?_⟩
    · rintro i v σ1 G4 G4' hi ⟨o3, o4, rfl, sm⟩ ⟨rfl, hv⟩
      obtain ⟨fv, hsh⟩ := flat v (List.mem_of_getElem? hv)
      have ein := inE v hsh
      have hsc : scal (resV ss wv v) (resV ss wv v) = true := by
        refine scalE _ ?_
        unfold resV
        split
        · rcases hwv with h | h
          · exact .inr ⟨_, h⟩
          · exact .inl h
        · exact hsh
      have no : (!decide (resV ss wv v = resV ss wv v)) = false := by
        rw [decide_eq_true rfl]
        rfl
      refine ⟨_, rfl, _, rfl, ar, _, rfl, .inl (SqL.of (sm _ _ row3)), fv, flat_strs row, _, rfl, ?_⟩
      obtain ⟨dx, D1, i1, i2⟩ := at3.same sm
      refine ite2 (fun h => ?_) (fun h => ?_)
      · have h : inV v (ss.map V.str) = true := by
          rw [← ein]
          exact h
        have e : resV ss wv v = wv := by
          unfold resV
          rw [if_pos h]
        have no : (!decide (resV ss wv v = wv)) = false := by
          rw [decide_eq_true e]
          rfl
        have hs2 : scal (resV ss wv v) wv = true := by
          rw [e] at hsc ⊢
          exact hsc
        refine ⟨_, rfl, _, rfl, m, dx, _, rfl, i1, rfl, _, rfl, m, ss, v, rfl, at3.same sm, fv, _, rfl, hs2, _, rfl, iteE' no ?_⟩
        refine ⟨_, rfl, m, dx, _, rfl, i1, rfl, _, rfl, m, ss, v, rfl, at3.same sm, fv, _, rfl, hs2, _, rfl, iteE' no ?_⟩
        exact ⟨_, _, rfl, sm⟩
      · have h : ¬ inV v (ss.map V.str) = true := by
          rw [← ein]
          exact h
        have e : resV ss wv v = v := by
          unfold resV
          rw [if_neg h]
        have no : (!decide (resV ss wv v = v)) = false := by
          rw [decide_eq_true e]
          rfl
        have hs2 : scal (resV ss wv v) v = true := by
          rw [e]
          exact scalE v hsh
        refine ⟨_, rfl, _, rfl, m, dx, _, rfl, i1, rfl, _, rfl, m, ss, v, rfl, at3.same sm, fv, _, rfl, hs2, _, rfl, iteE' no ?_⟩
        refine ⟨_, rfl, m, dx, _, rfl, i1, rfl, _, rfl, m, ss, v, rfl, at3.same sm, fv, _, rfl, hs2, _, rfl, iteE' no ?_⟩
        exact ⟨_, _, rfl, sm⟩
    · rintro σ1 G4 ⟨o3, o4, rfl, sm⟩
      obtain ⟨dx, D1, i1, i2⟩ := at3.same sm
      have m1 := Qs.met_len row row.length
      have okr1 := okr.1
      refine ⟨_, rfl, m, C, dx, _, _, rfl, i1, W.cl, W.n1, rfl, ?_⟩
      refine ⟨_, rfl, ar, row, rfl, .inl (sm.seq (SqL.of row3)), by unfold scanBound; omega, fun b1 H1 nb1 sb1 lb1 => ?_⟩
      refine ⟨b1, _, rfl, lb1, by omega, fun ss' b2 H2 pm1 so1 nb2 sb2 lb2 => ?_⟩
      refine ⟨b2, _, rfl, SqL.of lb2, fun a1 G5 n5 sb3 l5 => ?_⟩
      have s45 := (sb1.trans sb2).trans sb3
      have e1 : ss' = ss := Qs.asc_one (show Qs.Asc row ss' from ⟨pm1, so1⟩) asc fun _ => Iff.rfl
      rw [e1] at l5
      have tx : ∀ y ∈ ss, txt y = true := fun y hy => (pool_txt y (okr.2.2 y ((Qs.asc_mem asc y).mp hy))).1
      have shp := shaped_strsT ss tx
      refine ⟨.tuple (ss.map PyData.str), .tuple (ss.map PyData.str), .tup (SqT.of (s45 _ _ i2)) (dp_strs ss), .tup (SqT.of l5) (dp_strs ss), shp, shp, _, rfl, iteT' (eqv_same shp) ?_⟩
      refine ⟨_, rfl, m, C, dx, _, _, rfl, s45 _ _ i1, W.cl, W.n1, rfl, _, _, _, _, _, rfl, .ty _, .base (.tup (s45 _ _ i2)), kit_ty (r := true) (by decide +kernel), ?_⟩
      exact k G5 ((S3.trans sm).trans s45)
end
end K03
set_option Elab.async false
set_option linter.all false
set_option maxRecDepth 100000
set_option maxHeartbeats 8000000
namespace K03
open PySem PySem.Spec PyProof.Rows L2 TL Qh Qi Ql ClX
abbrev sSpoilt : Stmt := top 24
/-- a thing of the rows: a word of the pool, or no word at all -/
def ItV (G : Hp) (p : Addr) (v : V) : Prop := (∃ x, v = .str x ∧ x.length ≤ 1000 ∧ (x ∈ poolS ∨ (x ∉ poolS ∧ wordS x = false))) ∨ v = .non ∨ (∃ b, v = .bl b) ∨ (∃ i, v = .int i) ∨ ∃ a o, v = .ref a ∧ a ≠ p ∧ G a = some o ∧ ((∃ xs, o = .lst xs) ∨ (∃ xs, o = .tup xs) ∨ ∃ kvs, o = .dK kvs)
theorem ItV.kp {G G' : Hp} {p : Addr} {v : V} (h : ItV G p v) (k : Kp p G G') : ItV G' p v := by
  rcases h with h | h | h | h | ⟨a, o, e, n, ha, h⟩
  · exact .inl h
  · exact .inr (.inl h)
  · exact .inr (.inr (.inl h))
  · exact .inr (.inr (.inr (.inl h)))
  · exact .inr (.inr (.inr (.inr ⟨a, o, e, n, k a o n ha, h⟩)))
theorem ItV.known {K : PySem.W.Frag} {G : Hp} {p : Addr} {v : V} (h : ItV G p v) : Known K G v := by
  rcases h with ⟨x, e, h1, _⟩ | rfl | ⟨b, rfl⟩ | ⟨i, rfl⟩ | ⟨a, o, rfl, n, ha, ⟨xs, rfl⟩ | ⟨xs, rfl⟩ | ⟨kvs, rfl⟩⟩
  · exact .inl ⟨x, e, by omega⟩
  · exact .inr ⟨(fun x e => nomatch e), _, .base .non, kit_ty (by decide +kernel)⟩
  · exact .inr ⟨(fun x e => nomatch e), _, .base (.bl b), kit_ty (by decide +kernel)⟩
  · exact .inr ⟨(fun x e => nomatch e), _, .base (.int i), kit_ty (by decide +kernel)⟩
  · exact .inr ⟨(fun x e => nomatch e), _, .base (.lst ha), kit_ty (by decide +kernel)⟩
  · exact .inr ⟨(fun x e => nomatch e), _, .base (.tup ha), kit_ty (by decide +kernel)⟩
  · exact .inr ⟨(fun x e => nomatch e), _, .base (.dK ha), kit_ty (by decide +kernel)⟩
/-- no word -/
def OddW (G : Hp) (p : Addr) (v : V) : Prop := ItV G p v ∧ wordV v = false
theorem it_plain {G : Hp} {p : Addr} {x : Str} (h : ItV G p (.str x)) : decide (x ∈ poolS) = wordV (.str x) := by
  rcases h with ⟨y, e, _, h⟩ | h | ⟨b, h⟩ | ⟨i, h⟩ | ⟨a, o, h, _⟩
  · cases e
    rcases h with h | ⟨h1, h2⟩
    · rw [decide_eq_true h]
      exact (pool_txt x h).2.2.symm
    · rw [decide_eq_false h1]
      exact h2.symm
  · cases h
  · cases h
  · cases h
  · cases h
theorem dp_bools {K : PySem.W.Frag} {G : Hp} : ∀ bs : List Bool, DpAll K G (bs.map V.bl) (bs.map PyData.bool)
  | [] => .nil
  | a :: r => .cons (.bl a) (dp_bools r)
theorem lay_bools : ∀ bs : List Bool, PyData.canLayAll0 (bs.map PyData.bool) = true ∧ PyData.depthAll (bs.map PyData.bool) = 0
  | [] => ⟨rfl, rfl⟩
  | a :: r => ⟨by show (true && PyData.canLayAll0 (r.map PyData.bool)) = true; rw [(lay_bools r).1]; rfl, by show max 0 (PyData.depthAll (r.map PyData.bool)) = 0; rw [(lay_bools r).2]; rfl⟩
theorem shaped_bools (bs : List Bool) : SeqAt.shaped (.list (bs.map PyData.bool)) = true := by
  show (PyData.canLayAll0 (bs.map PyData.bool) && decide (PyData.depthAll (bs.map PyData.bool) + 1 ≤ 64)) = true
  rw [(lay_bools bs).1, (lay_bools bs).2]
  rfl
theorem ixN_nat' {n j : Nat} (hj : j < n) : ixN n (j : Int) = some j := by
  unfold ixN
  rw [if_pos (by omega), if_pos (by omega)]
  simp
abbrev spoN : List Str := ["_law_pen_here", "_law_row", "_law_some", "_law_turn", "_law_odd", "_law_plain", "_law_one"]
def spSpoilt : Sp := fun vs G Q _ => ∃ (p l ar : Addr) (c : Int) (row : List Str), vs = [.ref p, .ref ar] ∧ Pen G p l c ∧ c ≤ 800000 ∧ ar ≠ p ∧ G ar = some (.lst (row.map V.str)) ∧ okRow row ∧
  ∀ (q a t : Addr) (xs : List V) (i : Nat) G', xs.length = row.length → dueX xs = some (Str.ofString "word", some i) → (∀ v ∈ xs, ItV G' p v ∧ v ≠ .ref a) → a ≠ p → q ≠ p → t ≠ p → G' a = some (.lst xs) → G' q = some (.tup [.ref a, .ref t]) → G' t = some (.tup [.str (Str.ofString "word"), .int (i : Int)]) → Kp p G G' → Pen G' p l (c + 5) → Q (.ref q) G'
section
variable {P : Program} {w : World} {K : PySem.W.Frag} {mg : Str → Option Value} {base : Heap}
theorem scSpoilt : FnScope spoN ["_law_pen_here", "_law_row"] (defScope sSpoilt) := ⟨rfl, rfl, rfl, by decide +kernel, rfl, by decide +kernel, by decide +kernel⟩
set_option maxHeartbeats 16000000 in
theorem ok_spoilt (D : DefIn K mg "_law_spoilt" sSpoilt) (B : Blt mg) (F__law_draw : Ok P w K mg base "_law_draw" (defArgs sDraw) ["_law_pen_here", "_law_many"] 1 spDraw)
    (F__law_pick : Ok P w K mg base "_law_pick" (defArgs sPick) ["_law_pen_here", "_law_some"] 2 (spPick K)) (F__law_pool : Ok P w K mg base "_law_pool" (defArgs sPool) [] 1 spPool) :
    Ok P w K mg base "_law_spoilt" (defArgs sSpoilt) ["_law_pen_here", "_law_row"] 3 spSpoilt := by
  refine D.ok scSpoilt (fun vs G Q E h => ?_) (fun _ _ _ _ _ _ us hl => match us, hl with | [_, _], _ => rfl) (fun f cdv A out t G vs Q E hr h => ?_)
  · obtain ⟨p, l, ar, c, row, rfl, _⟩ := h
    rfl
  · obtain ⟨p, l, ar, c, row, rfl, P0, hc, arp, hrow, okr, k⟩ := h
    have hu65 : (A.deeper (envOfC (Str.ofString "_law_spoilt") (defScope sSpoilt) t.heap.objs.size f cdv)).units + 65 < cLine := by
      have := hr.un
      omega
    refine ⟨_, (pss_cons (ps_set (i := 2) scSpoilt.nd rfl (by first | exact Or.inl rfl | exact Or.inr rfl) (pe_callTy cn_list (by rfl) B.n_list bt_list (pa_cons (pv 1) pa_nil)))
    (pss_cons (ps_for (passes_of rfl) rfl (pi_range1 (by rfl) B.n_range (pa_cons (pe_op op_add pe_int (pe_own F__law_draw (hr.mono (by decide)) takes0 (pa_cons (pv 0) (pa_cons pe_int pa_nil)))) pa_nil)) (pg_name (i := 3) scSpoilt.nd rfl (by first | exact Or.inl rfl | exact Or.inr rfl))
      (pss_cons (ps_set (i := 4) scSpoilt.nd rfl (by first | exact Or.inl rfl | exact Or.inr rfl) (pe_own F__law_pick (hr.mono (by decide)) takes0 (pa_cons (pv 0) (pa_cons (pn_lst (pa_cons pe_str (pa_cons pe_str (pa_cons pe_non (pa_cons pe_int (pa_cons pe_bl (pa_cons (pn_tup (pa_cons pe_str pa_nil)) (pa_cons (pn_lst (pa_cons pe_str pa_nil)) (pa_cons pe_str (pa_cons pe_str (pa_cons pe_str (pa_cons pn_dict (pa_cons pe_str (pa_cons pe_str pa_nil)))))))))))))) pa_nil))))
    (pss_one (ps_asg (pv 4) (pg_sub (pv 2) (pe_own F__law_draw (hr.mono (by decide)) takes0 (pa_cons (pv 0) (pa_cons (pe_callB call_len (by rfl) B.n_len bt_len (pa_cons (pv 2) pa_nil)) pa_nil))) set_list)))))
    (pss_cons (ps_setLc (i := 5) (own := [("_law_one", 6)]) (tt := tYes) rfl scSpoilt.nd rfl rfl (sw_true rfl rfl rfl (by decide +kernel)) (pi_list (pv 2)) (blkOk_by (N := spoN) (sc := defScope sSpoilt) (by decide +kernel)) (fun _ _ _ _ _ => pg_name (i := 6) scSpoilt.nd rfl (by first | exact Or.inl rfl | exact Or.inr rfl)) (fun _ _ _ _ _ => pts_nil) (fun _ _ _ _ _ => (pe_and (pe_callB (r := rIsi K) call_isi (by rfl) B.n_isinstance bt_isinstance (pa_cons (pv 6) (pa_cons (pe_bltn (v := .ty "str") (by rfl) B.n_str bt_str rfl) pa_nil))) (pe_one (pe_cmpR (r := rIn K false) op_in_seq (pv 6) (pe_own0 F__law_pool (hr.mono (by decide))) (by rfl))))))
    (pss_one (ps_ret (pn_tup (pa_cons (pv 2) (pa_cons (pn_tup (pa_cons pe_str (pa_cons (pe_bm PySem.F.plainAttrs_list PySem.F.slot_list_index PySem.F.type_list_index (mt_indexD hu65) (pv 5) (pa_cons pe_bl pa_nil)) pa_nil))) pa_nil)))))))), ?_⟩
    obtain ⟨okr1, okr2, okr3⟩ := okr
    refine ⟨_, rfl, ar, _, rfl, .inl (SqL.of hrow), fun a G1 n1 s1 l1 => ?_⟩
    have ap := P0.ne n1
    have al := P0.nel n1
    have na : G a = none := n1
    refine ⟨_, rfl, p, l, c, 2, rfl, P0.same s1, by omega, by decide, by decide, fun d G2 d0 d1 kp2 P2 => ?_⟩
    refine ⟨_, _, rfl, rfl, 1 + d, rfl, by omega, by omega, ?_⟩
    refine for_range (fun i σ' G' => ∃ (o3 o4 : Option V) (xs : List V), σ' = [some (.ref p), some (.ref ar), some (.ref a), o3, o4, none, none] ∧ Kp p G G' ∧ G' a = some (.lst xs) ∧ xs.length = row.length ∧ (∀ x ∈ xs, ItV G' p x ∧ x ≠ .ref a) ∧ (1 ≤ i → ∃ x ∈ xs, wordV x = false) ∧ Pen G' p l (c + 1 + 2 * i))
      ⟨none, none, _, rfl, (Kp.same s1).trans kp2, kp2 _ _ ap l1, by rw [List.length_map], fun x hx => ?_, (fun h => absurd h (by decide)), P2.mono (by omega)⟩ ?_ ?_
    · obtain ⟨y, hy, rfl⟩ := List.mem_map.mp hx
      have := pool_txt y (okr3 y hy)
      exact ⟨.inl ⟨y, rfl, by omega, .inl (okr3 y hy)⟩, fun e => nomatch e⟩
    · rintro i σ1 G3 hi ⟨o3, o4, xs, rfl, kp3, ha3, hxn, hit, _, P3⟩
      have hi2 : i < 2 := by omega
      refine ⟨_, rfl, by show 1 ≤ sizeLine; decide, fun t1 H1 u1 v1 w1 => ?_⟩
      refine ⟨by show 1 ≤ sizeLine; decide, fun t2 H2 u2 v2 w2 => ?_⟩
      refine fun t3 H3 u3 v3 w3 => ?_
      refine ⟨by show 13 ≤ sizeLine; decide, fun m1 H4 u4 v4 w4 => ?_⟩
      have Q1 := P3.same v1
      have Q2 := Q1.same v2
      have Q3 := Q2.same v3
      have Q4 := Q3.same v4
      have V4 := ((v1.trans v2).trans v3).trans v4
      refine ⟨p, l, m1, _, _, rfl, Q4, by omega, Q3.ne u4, SqL.of w4, by show 0 < 13; decide, by show 13 ≤ 1000000; decide, fun v H5 hv kp5 P5 => ?_⟩
      have ha5 := kp5 _ _ ap (V4 _ _ ha3)
      have ta : ∀ {b : Addr} {H : Hp}, Same G3 H → H b = none → b ≠ a := fun {b H} s h z => by
        rw [z, s _ _ ha3] at h
        cases h
      have hodd : OddW H5 p v ∧ v ≠ .ref a := by
        have oS : ∀ x : Str, (decide (x.length ≤ 1000) && (!decide (x ∈ poolS) && !wordS x)) = true → OddW H5 p (.str x) ∧ V.str x ≠ .ref a := fun x h => by
          obtain ⟨b1, b2⟩ := Bool.and_eq_true_iff.mp h
          obtain ⟨b2, b3⟩ := Bool.and_eq_true_iff.mp b2
          have b2 : x ∉ poolS := by simpa using b2
          have b3 : wordS x = false := by simpa using b3
          exact ⟨⟨.inl ⟨x, rfl, of_decide_eq_true b1, .inr ⟨b2, b3⟩⟩, b3⟩, fun e => nomatch e⟩
        have g1 := kp5 _ _ (P3.ne u1) (v4 _ _ (v3 _ _ (v2 _ _ w1)))
        have g2 := kp5 _ _ (Q1.ne u2) (v4 _ _ (v3 _ _ w2))
        have g3 := kp5 _ _ (Q2.ne u3) (v4 _ _ w3)
        simp only [List.mem_cons, List.not_mem_nil, or_false] at hv
        rcases hv with rfl | rfl | rfl | rfl | rfl | rfl | rfl | rfl | rfl | rfl | rfl | rfl | rfl
        · exact oS _ (by decide +kernel)
        · exact oS _ (by decide +kernel)
        · exact ⟨⟨.inr (.inl rfl), rfl⟩, fun e => nomatch e⟩
        · exact ⟨⟨.inr (.inr (.inr (.inl ⟨_, rfl⟩))), rfl⟩, fun e => nomatch e⟩
        · exact ⟨⟨.inr (.inr (.inl ⟨_, rfl⟩)), rfl⟩, fun e => nomatch e⟩
        · exact ⟨⟨.inr (.inr (.inr (.inr ⟨t1, _, rfl, P3.ne u1, g1, .inr (.inl ⟨_, rfl⟩)⟩))), rfl⟩, fun e => ta (Same.refl G3) u1 (V.ref.inj e)⟩
        · exact ⟨⟨.inr (.inr (.inr (.inr ⟨t2, _, rfl, Q1.ne u2, g2, .inl ⟨_, rfl⟩⟩))), rfl⟩, fun e => ta v1 u2 (V.ref.inj e)⟩
        · exact oS _ (by decide +kernel)
        · exact oS _ (by decide +kernel)
        · exact oS _ (by decide +kernel)
        · exact ⟨⟨.inr (.inr (.inr (.inr ⟨t3, _, rfl, Q2.ne u3, g3, .inr (.inr ⟨_, rfl⟩)⟩))), rfl⟩, fun e => ta (v1.trans v2) u3 (V.ref.inj e)⟩
        · exact oS _ (by decide +kernel)
        · exact oS _ (by decide +kernel)
      clear hv w4
      obtain ⟨⟨hiv, hwv⟩, hva⟩ := hodd
      refine ⟨_, rfl, _, rfl, _, rfl, _, rfl, .ref a, _, rfl, .inl ⟨_, SqL.of ha5, rfl⟩, ?_⟩
      refine ⟨p, l, _, (xs.length : Int), rfl, P5, by omega, by omega, by omega, fun e H6 e0 e1 kp6 P6 => ?_⟩
      have ha6 := kp6 _ _ ap ha5
      have he : (e.toNat : Int) = e := Int.toNat_of_nonneg e0
      refine ⟨a, xs, e, e.toNat, rfl, rfl, ha6, by rw [← he]; exact ixN_nat' (by omega), ?_⟩
      have K6 : Kp p G3 H6 := ((Kp.same V4).trans kp5).trans kp6
      refine ⟨_, _, _, rfl, (kp3.trans K6).fresh na, upd_same, by rw [List.length_set]; exact hxn, fun y hy => ?_, fun _ => ⟨v, List.mem_set (show e.toNat < xs.length by omega) v, hwv⟩, (P6.upd ap al).mono (by omega)⟩
      have put : ∀ {y : V}, ItV H6 p y → y ≠ .ref a → ItV (L2.upd H6 a (.lst (xs.set e.toNat v))) p y := fun {y} hy ny => by
        rcases hy with h | h | h | h | ⟨b, o, rfl, nb, hb, h⟩
        · exact .inl h
        · exact .inr (.inl h)
        · exact .inr (.inr (.inl h))
        · exact .inr (.inr (.inr (.inl h)))
        · exact .inr (.inr (.inr (.inr ⟨b, o, rfl, nb, by rw [upd_ne fun z => ny (by rw [z])]; exact hb, h⟩)))
      rcases List.mem_or_eq_of_mem_set hy with hy | rfl
      · exact ⟨put ((hit y hy).1.kp K6) (hit y hy).2, (hit y hy).2⟩
      · exact ⟨put (hiv.kp kp6) hva, hva⟩
    · rintro σ1 G3 ⟨o3, o4, xs, rfl, kp3, ha3, hxn, hit, hex, P3⟩
      obtain ⟨xo, hxo, hwo⟩ := hex (by omega)
      refine ⟨_, rfl, a, rfl, ⟨_, SqL.of ha3⟩, fun D hD => ?_⟩
      have Dp := P3.ne hD
      refine lc_list (fun i H => Same G3 H ∧ H D = some (.lst ((xs.take i).map fun y => V.bl (wordV y)))) ⟨Qh.Same.new hD, by rw [upd_same]; rfl⟩ (fun i H _ ⟨sm, _⟩ => SqL.of (sm _ _ ha3)) ?_ ?_
      · rintro i v H hi ⟨sm, hl⟩
        have hiv := (hit v (List.mem_of_getElem? hi)).1.kp (Kp.same sm)
        have put : ∀ (b : Bool) (H' : Hp), wordV v = b → Same H H' → ∃ acc, H' D = some (.lst acc) ∧ acc.length < sizeLine ∧ (Same G3 (L2.upd H' D (.lst (acc ++ [V.bl b]))) ∧ (L2.upd H' D (.lst (acc ++ [V.bl b]))) D = some (.lst ((xs.take (i + 1)).map fun y => V.bl (wordV y)))) := fun b H' hb s => by
          refine ⟨_, s _ _ hl, ?_, Qh.Same.fresh (sm.trans s) hD, ?_⟩
          · rw [List.length_map, List.length_take]
            exact big_line' (by omega)
          · rw [upd_same, take_get hi, List.map_append, ← hb]
            rfl
        refine ⟨rfl, ?_⟩
        have other : ∀ ty, (∀ x, v ≠ .str x) → TyX K H v ty → PySem.W.kitOne K ty (.type "str") = some false → ∃ b : Bool, wordV v = b ∧ b = false := fun ty hx _ _ => ⟨_, rfl, by
          cases v with
          | str x => exact absurd rfl (hx x)
          | _ => rfl⟩
        rcases hiv.known (K := K) with ⟨x, rfl, hx⟩ | ⟨hno, ty, hty, hkit⟩
        · refine ⟨_, rfl, _, _, _, _, _, rfl, .ty _, .base (.str x), kit_ty (r := true) (by decide +kernel), _, rfl, ?_⟩
          refine iteT ?_
          refine ⟨_, rfl, rfl, fun q H2 n2 s2 l2 => ?_⟩
          refine ⟨q, _, rfl, .inl (SqL.of l2), rfl, flat_strs poolS, ?_⟩
          exact put _ H2 (by rw [← it_plain hiv]; exact (inV_strs x poolS).symm) s2
        · obtain ⟨b, hb, hbf⟩ := other ty hno hty hkit
          refine ⟨_, rfl, _, _, _, _, _, rfl, .ty _, hty, hkit, _, rfl, ?_⟩
          refine iteF ?_
          exact put false H (by rw [hb, hbf]) (Same.refl H)
      · rintro H ⟨sm, hl⟩
        rw [List.take_length] at hl
        have eb : xs.map (fun y => V.bl (wordV y)) = (xs.map wordV).map V.bl := by
          rw [List.map_map]
          rfl
        rw [eb] at hl
        obtain ⟨j, hj⟩ : ∃ j, xs.findIdx? (fun v => !wordV v) = some j := by
          cases e : xs.findIdx? (fun v => !wordV v) with
          | some j => exact ⟨j, rfl⟩
          | none =>
            have := List.findIdx?_eq_none_iff.mp e xo hxo
            rw [hwo] at this
            cases this
        obtain ⟨hjl, hjp, hjm⟩ := List.findIdx?_eq_some_iff_getElem.mp hj
        have due : dueX xs = some (Str.ofString "word", some j) := by
          unfold dueX
          rw [show (decide ((1 : Int) ≤ (xs.length : Int)) && decide ((xs.length : Int) ≤ 20)) = true by rw [decide_eq_true (by omega), decide_eq_true (by omega)]; rfl, if_pos rfl, hj]
        refine ⟨_, rfl, _, rfl, .inl ⟨rfl, _, SqL.of hl⟩, D, .bl false, .bool false, (xs.map wordV).map PyData.bool, j, .bool false, rfl, rfl, .lst (SqL.of hl) (dp_bools _), .bl _, shaped_bools _, rfl, ?_, rfl, fun m z' hm hz' => ?_, ?_⟩
        · rw [List.getElem?_map, List.getElem?_map, List.getElem?_eq_getElem hjl]
          have : wordV xs[j] = false := by simpa using hjp
          show some (PyData.bool (wordV xs[j])) = _
          rw [this]
        · rw [List.getElem?_map, List.getElem?_map, List.getElem?_eq_getElem (by omega)] at hz'
          have hw : wordV (xs[m]'(by omega)) = true := by simpa using hjm m hm
          have hz' : some (PyData.bool (wordV (xs[m]'(by omega)))) = some z' := hz'
          rw [hw] at hz'
          cases hz'
          rfl
        · refine ⟨by show 2 ≤ sizeLine; decide, fun t1 H1 n5 s5 l5 => ?_⟩
          refine ⟨by show 2 ≤ sizeLine; decide, fun t2 H2 n6 s6 l6 => ?_⟩
          have P4 := P3.same sm
          have S := (sm.trans s5).trans s6
          exact k t2 a t1 xs j H2 hxn due (fun v hv => ⟨(hit v hv).1.kp (Kp.same S), (hit v hv).2⟩) ap ((P4.same s5).ne n6) (P4.ne n5) (S _ _ ha3) l6 (s6 _ _ l5) (kp3.trans (Kp.same S)) ((P3.same S).mono (by omega))
end
end K03
set_option Elab.async false
set_option linter.all false
set_option maxRecDepth 100000
set_option maxHeartbeats 4000000
/-! C() of a class without own __init__. -/
namespace Qp
open PySem PySem.Spec PyProof.Rows L2 TL Qh SlX PySem.W NwA
section
variable {X : Cx} {C : Addr} {x : Str} {p pos : Pos}
def tPlain (C : Addr) : TE := fun _ H Q => ∀ x dx, H x = Option.none → H dx = Option.none → dx ≠ x → Q (.ref x) (L2.upd (L2.upd H dx (.own x)) x (.ins C dx []))
theorem pe_plain (mk : PySem.W.makesIn X.K C = true) (hi : PySem.W.findIn X.K (.ref C) "__init__" = some (some (.builtin "object.__init__"))) (top : PySem.W.mroIn X.K C (.type "object") = some true) (kp : PySem.W.keepIn X.K (.ref C) = true)
    (hm : X.mg x = some (.ref C)) (hg : Gl X x := by rfl) (hdb : (x == ("__debug__" : Str)) = false := by decide) : PE X (.Call (.Name x p) [] [] pos) (tPlain C) := by
  constructor
  intro pins s σ H Q I h
  refine wpAny_Call_Name_kw (ld_glob I hg hm ?_ hdb)
  refine PySem.W.callWith_K0 I.kIn kp ?_
  have want := h (s.heap.objs.size + 1) s.heap.objs.size (I.hok.fresh (Nat.le_succ _)) (I.hok.fresh (Nat.le_refl _)) (Nat.ne_of_lt (Nat.lt_succ_self _))
  have J := Inv.made (C := C) I
  obtain ⟨mA, O, _⟩ := ins_get J.hok upd_same
  obtain ⟨od, O, _⟩ := O.look
  refine wpAny_call (make_map0 I.kIn mk hi (fun self => PySem.W.Looks.of_pure (oi_bind _)) ?_)
  refine codeAny_call_builtin oi_plain entry_oi (PySem.W.check_slot oi_kind oi_split (O.type.andThen (PySem.W.looks_mroIn J.kIn top)) (oi_args_any _ [] []) ?_)
  rw [oi_run]
  exact wpAny_pure ⟨rfl, V.ref (s.heap.objs.size + 1), _, J, rfl, want⟩
end
end Qp
set_option Elab.async false
set_option linter.all false
set_option maxRecDepth 100000
set_option maxHeartbeats 16000000
namespace K03
open PySem PySem.Spec PyProof.Rows L2 TL Qh Qi Ql ClX
abbrev sLaw : Stmt := top 25
abbrev sResT : Stmt := inClass (top 12) 0
abbrev lawN : List Str := ["_law_script", "_law_pen_here", "_law_turn", "_law_row", "_law_k", "_law_kept", "_law_one", "_law_other", "_law_some", "_law_due", "_law_many", "_law_same", "_law_far"]
def spLaw (K : PySem.W.Frag) : Sp := fun vs G Q _ => ∃ (a : Addr) (ns : List Int), vs = [.ref a] ∧ SqL K G a (ns.map V.int) ∧ ∀ G', Q (.bl true) G'
def spResT : Sp := fun vs G Q _ => ∃ (a : Addr) (v : V), vs = [.ref a, v] ∧ Q v G
/-- Step, its plain instances -/
structure StepT (P : Program) (w : World) (K : PySem.W.Frag) (mg : Str → Option Value) (base : Heap) (C : Addr) : Prop where
  g : mg "Step" = some (.ref C)
  cl : Cls K C
  mks : PySem.W.makesIn K C = true
  hi : PySem.W.findIn K (.ref C) "__init__" = some (some (.builtin "object.__init__"))
  top : PySem.W.mroIn K C (.type "object") = some true
  kp : PySem.W.keepIn K (.ref C) = true
  rs : ∃ f fd, Meth K C "result" f ∧ Binds K fd ["self", "value"] [] ∧ FnOk P w K mg base (L2.CX P w) 1 f fd ["self", "value"] spResT
theorem strs_inj : ∀ {a b : List Str}, a.map V.str = b.map V.str → a = b
  | [], [], _ => rfl
  | [], _ :: _, h => nomatch h
  | _ :: _, [], h => nomatch h
  | x :: a, y :: b, h => by
    rw [List.map_cons, List.map_cons] at h
    injection h with h1 h2
    injection h1 with h1
    rw [h1, strs_inj h2]
theorem due_words {xs : List V} (h : xs.length = 0 ∨ xs.length = 21) : dueX xs = some (Str.ofString "words", none) := by
  have e : (decide ((1 : Int) ≤ (xs.length : Int)) && decide ((xs.length : Int) ≤ 20)) = false := by
    rcases h with h | h
    · rw [decide_eq_false (show ¬ (1 : Int) ≤ (xs.length : Int) by omega)]
      rfl
    · rw [decide_eq_false (show ¬ (xs.length : Int) ≤ 20 by omega), Bool.and_false]
  unfold dueX
  rw [e]
  rfl
def wordD (n : Nat) : PyData := .tuple [.str (Str.ofString "word"), .int (n : Int)]
def wordsD : PyData := .tuple [.str (Str.ofString "words"), .none]
theorem word_shaped (n : Nat) : SeqAt.shaped (.list [wordD n, wordD n]) = true := by
  have h : (PyData.canLay0 (.str (Str.ofString "word")) && (true && true)) = true := by decide +kernel
  show (((PyData.canLay0 (.str (Str.ofString "word")) && (true && true)) && ((PyData.canLay0 (.str (Str.ofString "word")) && (true && true)) && true)) && decide (max (max 0 (max 0 0) + 1) (max (max 0 (max 0 0) + 1) 0) + 1 ≤ 64)) = true
  rw [h]
  rfl
section
variable {P : Program} {w : World} {K : PySem.W.Frag} {mg : Str → Option Value} {base : Heap}
theorem scResT : FnScope ["self", "value"] ["self", "value"] (defScope sResT) := ⟨rfl, rfl, rfl, by decide +kernel, rfl, by decide +kernel, by decide +kernel⟩
theorem ok_resT {f : Addr} {fd : FuncData} (F : Fun K "result" "Step.result" sResT f fd) : FnOk P w K mg base (L2.CX P w) 1 f fd ["self", "value"] spResT := by
  refine F.okX scResT (fun vs G Q E h => ?_) (fun cdv A out t G vs Q E hr h => ?_)
  · obtain ⟨a, v, rfl, _⟩ := h
    rfl
  · obtain ⟨a, v, rfl, k⟩ := h
    exact ⟨_, pss_one (ps_ret (pv 1)), _, rfl, k⟩
theorem scLaw : FnScope lawN ["_law_script"] (defScope sLaw) := ⟨rfl, rfl, rfl, by decide +kernel, rfl, by decide +kernel, by decide +kernel⟩
theorem ok_law {CS CD CT CE fl fs fdp : Addr} {fdl : FuncData} (D : Fun K "law" "law" sLaw fl fdl) (B : Blt mg) (TS : StopC K mg CS) (gD : mg "Drop" = some (.ref CD)) (mostD : ∃ mc u, CRead K CD mc ∧ CVal K CD mc "MOST" (.int 20) u) (MT : StepT P w K mg base CT) (IS : InsT K CS) (ID : InsT K CD)
    (kDS : PySem.W.kitOne K (.ref CD) (.ref CS) = some true) (kSD : PySem.W.kitOne K (.ref CS) (.ref CD) = some false) (kST : PySem.W.kitOne K (.ref CS) (.ref CT) = some true) (gs : mg "_law_stop" = some (.ref fs)) (gd : mg "_law_drop" = some (.ref fdp))
    (F__law_pen : Ok P w K mg base "_law_pen" (defArgs sPen) ["_law_script"] 1 (spPen K))
    (F__law_draw : Ok P w K mg base "_law_draw" (defArgs sDraw) ["_law_pen_here", "_law_many"] 1 spDraw)
    (F__law_pick : Ok P w K mg base "_law_pick" (defArgs sPick) ["_law_pen_here", "_law_some"] 2 (spPick K))
    (F__law_pool : Ok P w K mg base "_law_pool" (defArgs sPool) [] 1 spPool)
    (F__law_stop : Ok P w K mg base "_law_stop" (defArgs sStop) ["_law_row"] 6 (spMake K CS CE)) (F__law_drop : Ok P w K mg base "_law_drop" (defArgs sDrop) ["_law_row"] 7 (spMake K CD CE))
    (F__law_heard : Ok P w K mg base "_law_heard" (defArgs sHeard) ["_law_ask", "_law_row"] 8 (spHeard K fun g => g = fs ∨ g = fdp))
    (F_rS : Ok P w K mg base "_law_results_right" (defArgs sResR) ["_law_made", "_law_row", "_law_wanted"] 3 (spResR K CS (.str hole))) (F_rD : Ok P w K mg base "_law_results_right" (defArgs sResR) ["_law_made", "_law_row", "_law_wanted"] 3 (spResR K CD .non))
    (F__law_spoilt : Ok P w K mg base "_law_spoilt" (defArgs sSpoilt) ["_law_pen_here", "_law_row"] 3 spSpoilt) :
    FnG P w K mg base (L2.CX P w) 10 fl fdl ["_law_script"] (spLaw K) := by
  refine Qh.okG D scLaw (fun vs G Q E h => ?_) (fun cdv A out t G vs Q E gu hr h => ?_)
  · obtain ⟨a, ns, rfl, _⟩ := h
    rfl
  · obtain ⟨a, ns, rfl, hS, k⟩ := h
    have hu64 := hr.units
    obtain ⟨fR, fdR, MR, bR, FR⟩ := MT.rs
    refine ⟨_, (pss_cons (ps_set (i := 1) scLaw.nd rfl (by first | exact Or.inl rfl | exact Or.inr rfl) (pe_own F__law_pen (hr.mono (by decide)) takes0 (pa_cons (pv 0) pa_nil)))
    (pss_cons (ps_for (passes_of rfl) rfl (pi_range1 (by rfl) B.n_range (pa_cons pe_int pa_nil)) (pg_name (i := 2) scLaw.nd rfl (by first | exact Or.inl rfl | exact Or.inr rfl))
      (pss_cons (ps_setLc (i := 3) (own := [("_law_k", 4)]) (tt := tYes) rfl scLaw.nd rfl rfl (sw_true rfl rfl rfl (by decide +kernel)) (pi_range1 (by rfl) B.n_range (pa_cons (pe_ix ix_list (pn_lst (pa_cons pe_int (pa_cons pe_int (pa_cons pe_int (pa_cons pe_int pa_nil))))) (pe_own F__law_draw (hr.mono (by decide)) takes0 (pa_cons (pv 1) (pa_cons pe_int pa_nil))) (fun _ _ => rfl)) pa_nil)) (blkOk_by (N := lawN) (sc := defScope sLaw) (by decide +kernel)) (fun _ _ _ _ _ => pg_name (i := 4) scLaw.nd rfl (by first | exact Or.inl rfl | exact Or.inr rfl)) (fun _ _ _ _ _ => pts_nil) (fun _ _ _ _ _ => (pe_own F__law_pick (hr.mono (by decide)) takes0 (pa_cons (pv 1) (pa_cons (pe_own0 F__law_pool (hr.mono (by decide))) pa_nil)))))
    (pss_cons (ps_set (i := 5) scLaw.nd rfl (by first | exact Or.inl rfl | exact Or.inr rfl) (pe_callTy cn_list (by rfl) B.n_list bt_list (pa_cons (pv 3) pa_nil)))
    (pss_cons (ps_par rfl scLaw.nd (i := 6) (j := 7) rfl rfl (by decide) rfl rfl (pa_cons (pe_own F__law_stop (hr.mono (by decide)) takes0 (pa_cons (pv 3) pa_nil)) (pa_cons (pe_own F__law_drop (hr.mono (by decide)) takes0 (pa_cons (pv 3) pa_nil)) pa_nil)) (by rfl))
    (pss_cons (ps_if (PW.pt (pw_or (pt_not (pt_val (pe_own F_rS (hr.mono (by decide)) takes0 (pa_cons (pv 6) (pa_cons (pv 3) (pa_cons pe_str pa_nil)))))) (pw_or1 (pt_not (pt_val (pe_own F_rD (hr.mono (by decide)) takes0 (pa_cons (pv 7) (pa_cons (pv 3) (pa_cons pe_non pa_nil))))))))) (pss_one (ps_ret pe_bl)) pss_nil)
    (pss_cons (ps_if (PW.pt (pw_or (pt_not (pt_val (pe_callB call_isi (by rfl) B.n_isinstance bt_isinstance (pa_cons (pv 7) (pa_cons (pe_glob (v := .ref CS) rfl TS.g rfl) pa_nil))))) (pw_or (pt_val (pe_callB call_isi (by rfl) B.n_isinstance bt_isinstance (pa_cons (pv 6) (pa_cons (pe_glob (v := .ref CD) rfl gD rfl) pa_nil)))) (pw_or (pt_not (pt_val (pe_callB call_isi (by rfl) B.n_isinstance bt_isinstance (pa_cons (pv 6) (pa_cons (pe_glob (v := .ref CT) rfl MT.g rfl) pa_nil))))) (pw_or1 (pt_cmpR (op_neD hu64) (pv 3) (pv 5) (nomark _))))))) (pss_one (ps_ret pe_bl)) pss_nil)
    (pss_cons (ps_asg (pe_own F__law_spoilt (hr.mono (by decide)) takes0 (pa_cons (pv 1) (pa_cons (pv 3) pa_nil))) (pg_tup rfl (pgs_cons (pg_name (i := 8) scLaw.nd rfl (by first | exact Or.inl rfl | exact Or.inr rfl)) (pgs_cons (pg_name (i := 9) scLaw.nd rfl (by first | exact Or.inl rfl | exact Or.inr rfl)) pgs_nil))))
    (pss_cons (ps_if (pt_cmpR (op_neD hu64) (pn_lst (pa_cons (pe_own F__law_heard (hr.mono (by decide)) takes0 (pa_cons (pe_glob (v := .ref fs) rfl gs rfl) (pa_cons (pv 8) pa_nil))) (pa_cons (pe_own F__law_heard (hr.mono (by decide)) takes0 (pa_cons (pe_glob (v := .ref fdp) rfl gd rfl) (pa_cons (pv 8) pa_nil))) pa_nil))) (pn_lst (pa_cons (pv 9) (pa_cons (pv 9) pa_nil))) (nomark _)) (pss_one (ps_ret pe_bl)) pss_nil)
    (pss_cons (ps_setLc (i := 10) (own := [("_law_k", 4)]) (tt := tYes) rfl scLaw.nd rfl rfl (sw_true rfl rfl rfl (by decide +kernel)) (pi_range1 (by rfl) B.n_range (pa_cons pe_int pa_nil)) (blkOk_by (N := lawN) (sc := defScope sLaw) (by decide +kernel)) (fun _ _ _ _ _ => pg_name (i := 4) scLaw.nd rfl (by first | exact Or.inl rfl | exact Or.inr rfl)) (fun _ _ _ _ _ => pts_nil) (fun _ _ _ _ _ => (pe_own F__law_pick (hr.mono (by decide)) takes0 (pa_cons (pv 1) (pa_cons (pe_op on_cat (pe_own0 F__law_pool (hr.mono (by decide))) (pn_lst (pa_cons pe_str (pa_cons pe_non pa_nil)))) pa_nil)))))
    (pss_cons (ps_set (i := 11) scLaw.nd rfl (by first | exact Or.inl rfl | exact Or.inr rfl) (pe_op on_rep (pn_lst (pa_cons (pe_ix ix_list (pv 3) pe_int (fun _ _ => rfl)) pa_nil)) pe_int))
    (pss_one (ps_for (passes_of rfl) rfl (pi_tup (pn_tup (pa_cons (pn_lst pa_nil) (pa_cons (pv 10) (pa_cons (pv 11) pa_nil))))) (pg_name (i := 12) scLaw.nd rfl (by first | exact Or.inl rfl | exact Or.inr rfl))
      (pss_one (ps_if (pt_cmpR (op_neD hu64) (pn_lst (pa_cons (pe_own F__law_heard (hr.mono (by decide)) takes0 (pa_cons (pe_glob (v := .ref fs) rfl gs rfl) (pa_cons (pv 12) pa_nil))) (pa_cons (pe_own F__law_heard (hr.mono (by decide)) takes0 (pa_cons (pe_glob (v := .ref fdp) rfl gd rfl) (pa_cons (pv 12) pa_nil))) pa_nil))) (pe_op on_rep (pn_lst (pa_cons (pn_tup (pa_cons pe_str (pa_cons pe_non pa_nil))) pa_nil)) pe_int) (nomark _)) (pss_one (ps_ret pe_bl)) pss_nil))))))))))))))
    (pss_one (ps_ret (pe_and (pe_cmpR op_eq (pe_cval (pe_glob (v := .ref CS) rfl TS.g rfl)) pe_int (nomark _)) (pe_and (pe_cmpR op_eq (pe_cval (pe_glob (v := .ref CD) rfl gD rfl)) pe_int (nomark _)) (pe_and (pe_cmpR op_eq (pe_meth (Qp.pe_plain MT.mks MT.hi MT.top MT.kp MT.g) MT.cl MR FR (hr.mono (by decide)) bR .nil passL (pa_cons pe_str pa_nil)) pe_str (nomark _)) (pe_one (pe_cmpR op_isN (pe_meth (Qp.pe_plain MT.mks MT.hi MT.top MT.kp MT.g) MT.cl MR FR (hr.mono (by decide)) bR .nil passL (pa_cons pe_non pa_nil)) pe_non (nomark _)))))))))), ?_⟩
    have sz : ∀ {n : Nat}, n ≤ 1000 → n ≤ sizeLine := fun h => big_line (by omega)
    refine ⟨_, rfl, a, ns, rfl, hS, fun p l G1 hp1 s1 P1 => ?_⟩
    refine ⟨8, rfl, by decide, by decide, ?_⟩
    refine for_range (fun i σ' G' => ∃ (o2 o3 o5 o6 o7 o8 o9 o10 o11 o12 : Option V), σ' = [some (.ref a), some (.ref p), o2, o3, none, o5, o6, o7, o8, o9, o10, o11, o12] ∧ Pen G' p l (60 * i)) ⟨_, _, _, _, _, _, _, _, _, _, rfl, P1.mono (by omega)⟩ ?_ ?_
    · rintro i σ1 G2 hi ⟨o2, o3, o5, o6, o7, o8, o9, o10, o11, o12, rfl, P2⟩
      have hi : i < 8 := hi
      -- the row
      refine ⟨by show 4 ≤ sizeLine; decide, fun q1 G3 n3 s3 l3 => ?_⟩
      have q1p := P2.ne n3
      refine ⟨_, rfl, p, l, _, 4, rfl, P2.same s3, by omega, by decide, by decide, fun d1 G4 d10 d11 kp4 P4 => ?_⟩
      obtain ⟨v1, hv1, _, hm1⟩ := at_lt (xs := [V.int 1, .int 2, .int 3, .int 20]) d1 d10 d11
      obtain ⟨n, rfl, hn⟩ : ∃ n : Nat, v1 = V.int (n : Int) ∧ n ∈ [1, 2, 3, 20] := by
        simp only [List.mem_cons, List.not_mem_nil, or_false] at hm1
        rcases hm1 with rfl | rfl | rfl | rfl
        · exact ⟨1, rfl, by decide⟩
        · exact ⟨2, rfl, by decide⟩
        · exact ⟨3, rfl, by decide⟩
        · exact ⟨20, rfl, by decide⟩
      have hn8 : n ≤ 20 ∧ 1 ≤ n := by
        simp only [List.mem_cons, List.not_mem_nil, or_false] at hn
        omega
      refine ⟨q1, _, d1, _, rfl, rfl, SqL.of (kp4 q1 _ q1p l3), hv1, ?_⟩
      refine ⟨n, rfl, by omega, by omega, fun D1 hD1 => ?_⟩
      have D1p := P4.ne hD1
      have D1l := P4.nel hD1
      refine lc_range (fun j G' => ∃ ts : List Str, G' D1 = some (.lst (ts.map V.str)) ∧ ts.length = j ∧ (∀ x ∈ ts, x ∈ poolS) ∧ Pen G' p l (60 * i + 1 + j)) ⟨[], upd_same, rfl, (fun y h => nomatch h), (P4.new hD1).mono (by omega)⟩ ?_ ?_
      · rintro j G5 hj ⟨ts, hl, hnt, hok, P5⟩
        have hj8 : j < 20 := by omega
        refine ⟨rfl, ?_⟩
        refine ⟨_, rfl, rfl, fun q H2 nq sq lq => ?_⟩
        refine ⟨p, l, q, _, _, rfl, P5.same sq, by omega, P5.ne nq, SqL.of lq, by show 0 < 14; decide, by show 14 ≤ 1000000; decide, fun v G6 hv kp6 P6 => ?_⟩
        obtain ⟨x, hx, rfl⟩ := List.mem_map.mp hv
        refine ⟨_, kp6 D1 _ D1p (sq _ _ hl), by rw [List.length_map]; exact big_line' (by omega), ts ++ [x], ?_, by simp [hnt], fun z hz => ?_, (P6.upd D1p D1l).mono (by omega)⟩
        · rw [upd_same, List.map_append]
          rfl
        · rcases List.mem_append.mp hz with hz | hz
          · exact hok z hz
          · rw [List.mem_singleton.mp hz]
            exact hx
      rintro G5 ⟨row, hrow, hnrow, hok, P5⟩
      have hnrow : row.length = n := by
        rw [hnrow]
        rfl
      have P5 : Pen G5 p l (60 * i + 21) := P5.mono (by omega)
      have okr : okRow row := ⟨by omega, by omega, hok⟩
      have lens : (row.map V.str).length ∈ rowLens := by
        rw [List.length_map, hnrow]
        simp only [List.mem_cons, List.not_mem_nil, or_false] at hn ⊢
        omega
      have knownR : ∀ u ∈ row.map V.str, ∀ G' : Hp, Known K G' u := fun u hu G' => by
        obtain ⟨y, hy, rfl⟩ := List.mem_map.mp hu
        have := (pool_txt y (hok y hy)).2.1
        exact .inl ⟨y, rfl, by omega⟩
      have due : dueX (row.map V.str) = none := by
        unfold dueX
        rw [show (decide ((1 : Int) ≤ ((row.map V.str).length : Int)) && decide (((row.map V.str).length : Int) ≤ 20)) = true by rw [List.length_map, decide_eq_true (by omega), decide_eq_true (by omega)]; rfl, if_pos rfl, findIdx_none fun j w hw => ?_]
        obtain ⟨y, hy, rfl⟩ := map_at hw
        rw [show wordV (.str y) = true from (pool_txt y (hok y (List.mem_of_getElem? hy))).2.2]
        rfl
      clear hv1 hm1 l3 P4 kp4
      -- kept
      refine ⟨_, rfl, D1, _, rfl, .inl (SqL.of hrow), fun D2 G6 n6 s6 l6 => ?_⟩
      have P6 := P5.same s6
      have D2p := P5.ne n6
      have row6 := s6 _ _ hrow
      -- stop, drop
      refine ⟨_, rfl, D1, row.map V.str, rfl, SqL.of row6, lens, ⟨fun u hu G' _ => knownR u hu G', by rw [List.length_map]; omega, fun r i e => absurd (due.symm.trans e) (fun z => nomatch z), ?_⟩⟩
      intro ts _ e1 x ss G7 nx s7 at7 asc1
      obtain rfl : row = ts := strs_inj e1
      refine ⟨_, rfl, D1, row.map V.str, rfl, SqL.of (s7 _ _ row6), lens, ⟨fun u hu G' _ => knownR u hu G', by rw [List.length_map]; omega, fun r i e => absurd (due.symm.trans e) (fun z => nomatch z), ?_⟩⟩
      intro ts _ e2 y tt G8 ny s8 at8 asc2
      obtain rfl : row = ts := strs_inj e2
      have S8 := s7.trans s8
      have row8 := S8 _ _ row6
      have at7 := at7.same s8
      refine ⟨_, _, rfl, ?_⟩
      refine ⟨_, rfl, _, rfl, x, D1, row, ss, rfl, at7, row8, okr, asc1, fun G9 s9 => ⟨_, rfl, iteE' rfl ?_⟩⟩
      refine ⟨_, rfl, _, rfl, y, D1, row, tt, rfl, at8.same s9, s9 _ _ row8, okr, asc2, fun G10 s10 => ⟨_, rfl, iteE' rfl ?_⟩⟩
      have S10 := (S8.trans s9).trans s10
      obtain ⟨dx1, E1, i1, i2⟩ := (at7.same s9).same s10
      obtain ⟨dx2, E2, j1, j2⟩ := (at8.same s9).same s10
      have row10 := S10 _ _ row6
      have kept10 := S10 _ _ l6
      refine ⟨_, rfl, _, _, _, _, _, rfl, .own CS, ID.ty j1, kDS, _, rfl, iteE' rfl ?_⟩
      refine ⟨_, rfl, _, _, _, _, _, rfl, .own CD, IS.ty i1, kSD, _, rfl, iteE' rfl ?_⟩
      refine ⟨_, rfl, _, _, _, _, _, rfl, .own CT, IS.ty i1, kST, _, rfl, iteE' rfl ?_⟩
      have shR := shaped_strsL row fun y hy => (pool_txt y (hok y hy)).1
      refine ⟨_, rfl, _, rfl, .list (row.map PyData.str), .list (row.map PyData.str), .lst (SqL.of row10) (dp_strs row), .lst (SqL.of kept10) (dp_strs row), shR, shR, _, rfl, iteE' (by rw [eqv_same shR]; rfl) ?_⟩
      -- spoilt
      have P10 := P6.same S10
      refine ⟨_, rfl, _, rfl, p, l, D1, _, row, rfl, P10, by omega, D1p, row10, okr, fun q b tq xs j G11 hxn hdue hit bp qp tp hb hq htq kp11 P11 => ?_⟩
      refine ⟨q, _, rfl, SqT.of hq, rfl, _, _, rfl, _, _, rfl, rfl, ?_⟩
      have row11 := kp11 _ _ D1p row10
      have lensX : xs.length ∈ rowLens := by
        have e : xs.length = (row.map V.str).length := by rw [hxn, List.length_map]
        rw [e]
        exact lens
      have knownX : ∀ u ∈ xs, ∀ G', Same G11 G' → Known K G' u := fun u hu G' s => ((hit u hu).1.kp (Kp.same s)).known
      refine ⟨_, rfl, fs, b, xs, rfl, .inl rfl, SqL.of hb, lensX, knownX, fun e => absurd (hdue.symm.trans e) (fun z => nomatch z), fun r i' e h1 G12 s12 t1 => ?_⟩
      obtain ⟨rfl, rfl⟩ := Prod.mk.inj (Option.some.inj (hdue.symm.trans e))
      refine ⟨_, rfl, fdp, b, xs, rfl, .inr rfl, SqL.of (s12 _ _ hb), lensX, fun u hu G' s => knownX u hu G' (s12.trans s), fun e => absurd (hdue.symm.trans e) (fun z => nomatch z), fun r i' e h2 G13 s13 t2 => ?_⟩
      obtain ⟨rfl, rfl⟩ := Prod.mk.inj (Option.some.inj (hdue.symm.trans e))
      refine ⟨by show 2 ≤ sizeLine; decide, fun g1 G14 n14 s14 l14 => ?_⟩
      refine ⟨_, rfl, _, rfl, by show 2 ≤ sizeLine; decide, fun g2 G15 n15 s15 l15 => ?_⟩
      have dW : ∀ {H : Hp} {q : Addr}, H q = some (.tup [.str (Str.ofString "word"), .int (j : Int)]) → Dp K H (.ref q) (wordD j) := fun h => .tup (SqT.of h) (.cons (.str _) (.cons (.int _) .nil))
      have S15 := ((s12.trans s13).trans s14).trans s15
      have shW := word_shaped j
      refine ⟨.list [wordD j, wordD j], .list [wordD j, wordD j], .lst (SqL.of (s15 _ _ l14)) (.cons (dW (s15 _ _ (s14 _ _ (s13 _ _ t1)))) (.cons (dW (s15 _ _ (s14 _ _ t2))) .nil)), .lst (SqL.of l15) (.cons (dW (S15 _ _ htq)) (.cons (dW (S15 _ _ htq)) .nil)), shW, shW, _, rfl, iteE' (by rw [eqv_same shW]; rfl) ?_⟩
      have row15 := S15 _ _ row11
      have P15 : Pen G15 p l (60 * i + 26) := (P11.same S15).mono (by omega)
      clear hit knownX lensX
      -- many
      refine ⟨21, rfl, by decide, by decide, fun D3 hD3 => ?_⟩
      have D3p := P15.ne hD3
      have D3l := P15.nel hD3
      have D13 : D1 ≠ D3 := ne_of_none row15 hD3
      refine lc_range (fun j G' => ∃ ys : List V, G' D3 = some (.lst ys) ∧ ys.length = j ∧ (∀ v ∈ ys, ∀ H : Hp, Known K H v) ∧ G' D1 = some (.lst (row.map V.str)) ∧ Pen G' p l (60 * i + 26 + j)) ⟨[], upd_same, rfl, (fun y h => nomatch h), by rw [upd_ne D13]; exact row15, (P15.new hD3).mono (by omega)⟩ ?_ ?_
      · rintro j2 H1 hj ⟨ys, hl, hny, hky, hr1, Q1⟩
        have hj8 : j2 < 21 := hj
        refine ⟨rfl, ?_⟩
        refine ⟨_, rfl, rfl, fun z1 H2 m1 v1 w1 => ?_⟩
        refine ⟨by show 2 ≤ sizeLine; decide, fun z2 H3 m2 v2 w2 => ?_⟩
        refine ⟨z1, z2, _, _, rfl, rfl, v2 _ _ w1, w2, by show 14 + 2 ≤ sizeLine; decide, fun z3 H4 m3 v3 w3 => ?_⟩
        have V := (v1.trans v2).trans v3
        refine ⟨p, l, z3, _, _, rfl, Q1.same V, by omega, ((Q1.same v1).same v2).ne m3, SqL.of w3, by show 0 < 16; decide, by show 16 ≤ 1000000; decide, fun v H5 hv kp5 Q5 => ?_⟩
        have kv : ∀ H : Hp, Known K H v := fun H => by
          rcases List.mem_append.mp hv with hv | hv
          · obtain ⟨y, hy, rfl⟩ := List.mem_map.mp hv
            have := (pool_txt y hy).2.1
            exact .inl ⟨y, rfl, by omega⟩
          · simp only [List.mem_cons, List.not_mem_nil, or_false] at hv
            rcases hv with rfl | rfl
            · exact .inl ⟨_, rfl, by decide +kernel⟩
            · exact .inr ⟨(fun x e => nomatch e), _, .base .non, kit_ty (by decide +kernel)⟩
        refine ⟨_, kp5 D3 _ D3p (V _ _ hl), by rw [hny]; exact big_line' (by omega), ys ++ [v], upd_same, by simp [hny], fun z hz => ?_, by rw [upd_ne D13]; exact kp5 D1 _ D1p (V _ _ hr1), (Q5.upd D3p D3l).mono (by omega)⟩
        rcases List.mem_append.mp hz with hz | hz
        · exact hky z hz
        · rw [List.mem_singleton.mp hz]
          exact kv
      rintro G16 ⟨ys, hys, hny, hky, row16, P16⟩
      have hny : ys.length = 21 := hny
      -- the same one
      obtain ⟨y0, hy0⟩ : ∃ y0, row[0]? = some y0 := ⟨row[0]'(by omega), List.getElem?_eq_getElem (by omega)⟩
      refine ⟨_, rfl, D1, _, 0, .str y0, rfl, rfl, SqL.of row16, atI_nat (j := 0) (by rw [List.getElem?_map, hy0]; rfl), ?_⟩
      refine ⟨by show 1 ≤ sizeLine; decide, fun z1 G17 n17 s17 l17 => ?_⟩
      refine ⟨z1, 21, _, rfl, rfl, l17, by decide, by decide, by show 1 * 21 ≤ sizeLine; decide, fun z2 G18 n18 s18 l18 => ?_⟩
      have l18' : G18 z2 = some (.lst (List.replicate 21 (V.str y0))) := l18
      have ky0 : ∀ H : Hp, Known K H (.str y0) := knownR _ (List.mem_map.mpr ⟨y0, List.mem_of_getElem? hy0, rfl⟩)
      refine ⟨by show 0 ≤ sizeLine; decide, fun z3 G19 n19 s19 l19 => ?_⟩
      refine ⟨_, rfl, _, rfl, by show 3 ≤ sizeLine; decide, fun z4 G20 n20 s20 l20 => ?_⟩
      have S20 := ((s17.trans s18).trans s19).trans s20
      have hfar : ∀ v ∈ [V.ref z3, .ref D3, .ref z2], ∃ b ys, v = .ref b ∧ G20 b = some (.lst ys) ∧ (ys.length = 0 ∨ ys.length = 21) ∧ ∀ u ∈ ys, ∀ H : Hp, Known K H u := fun v hv => by
        simp only [List.mem_cons, List.not_mem_nil, or_false] at hv
        rcases hv with rfl | rfl | rfl
        · exact ⟨z3, [], rfl, s20 _ _ l19, .inl rfl, fun u hu => nomatch hu⟩
        · exact ⟨D3, ys, rfl, S20 _ _ hys, .inr hny, hky⟩
        · exact ⟨z2, _, rfl, s20 _ _ (s19 _ _ l18'), .inr (List.length_replicate ..), fun u hu => by rw [(List.mem_replicate.mp hu).2]; exact ky0⟩
      refine ⟨z4, rfl, ⟨_, SqT.of l20⟩, for_it walk_tup (fun i2 σ' G' => ∃ o, σ' = [some (.ref a), some (.ref p), some (.int (0 + (i : Int))), some (.ref D1), none, some (.ref D2), some (.ref x), some (.ref y), some (.ref b), some (.ref tq), some (.ref D3), some (.ref z2), o] ∧ Same G20 G') ⟨_, rfl, Same.refl G20⟩ (fun i2 σ' G' _ ⟨_, _, sm⟩ => SqT.of (sm _ _ l20)) ?_ ?_⟩
      · rintro i2 v σ2 H1 H1' hi2 ⟨o, rfl, sm⟩ ⟨rfl, hv⟩
        obtain ⟨c, ws, rfl, hc, hlen, hk⟩ := hfar v (List.mem_of_getElem? hv)
        have dueF : dueX ws = some (Str.ofString "words", none) := due_words hlen
        have lensF : ws.length ∈ rowLens := by
          rcases hlen with h | h
          · rw [h]
            decide
          · rw [h]
            decide
        refine ⟨_, rfl, fs, c, ws, rfl, .inl rfl, SqL.of (sm _ _ hc), lensF, fun u hu G' _ => hk u hu G', fun e => absurd (dueF.symm.trans e) (fun z => nomatch z), fun r i' e h1 H2 s2 t1 => ?_⟩
        obtain ⟨rfl, rfl⟩ := Prod.mk.inj (Option.some.inj (dueF.symm.trans e))
        refine ⟨_, rfl, fdp, c, ws, rfl, .inr rfl, SqL.of (s2 _ _ (sm _ _ hc)), lensF, fun u hu G' _ => hk u hu G', fun e => absurd (dueF.symm.trans e) (fun z => nomatch z), fun r i' e h2 H3 s3 t2 => ?_⟩
        obtain ⟨rfl, rfl⟩ := Prod.mk.inj (Option.some.inj (dueF.symm.trans e))
        refine ⟨by show 2 ≤ sizeLine; decide, fun e1 H4 m4 s4 w4 => ?_⟩
        refine ⟨by show 2 ≤ sizeLine; decide, fun e2 H5 m5 s5 w5 => ?_⟩
        refine ⟨by show 1 ≤ sizeLine; decide, fun e3 H6 m6 s6 w6 => ?_⟩
        refine ⟨e3, 2, _, rfl, rfl, w6, by decide, by decide, by show 1 * 2 ≤ sizeLine; decide, fun e4 H7 m7 s7 w7 => ?_⟩
        have dW : ∀ {H : Hp} {q : Addr}, H q = some (.tup [.str (Str.ofString "words"), .non]) → Dp K H (.ref q) wordsD := fun h => .tup (SqT.of h) (.cons (.str _) (.cons .non .nil))
        have T5 := (s5.trans s6).trans s7
        refine ⟨.list [wordsD, wordsD], .list [wordsD, wordsD], .lst (SqL.of (T5 _ _ w4)) (.cons (dW (T5 _ _ (s4 _ _ (s3 _ _ t1)))) (.cons (dW (T5 _ _ (s4 _ _ t2))) .nil)), .lst (SqL.of w7) (.cons (dW (s7 _ _ (s6 _ _ w5))) (.cons (dW (s7 _ _ (s6 _ _ w5))) .nil)), by decide +kernel, by decide +kernel, _, rfl, iteE' (by decide +kernel) ?_⟩
        exact ⟨_, rfl, (((sm.trans s2).trans s3).trans s4).trans T5⟩
      · rintro σ2 H1 ⟨o, rfl, sm⟩
        exact ⟨_, _, _, _, _, _, _, _, _, _, rfl, (P16.same (S20.trans sm)).mono (by omega)⟩
    · rintro σ1 G2 ⟨o2, o3, o5, o6, o7, o8, o9, o10, o11, o12, rfl, P2⟩
      obtain ⟨mc, u2, cr, cv⟩ := TS.most
      obtain ⟨mc2, u3, cr2, cv2⟩ := mostD
      refine ⟨CS, mc, .int 20, u2, rfl, cr, cv, rfl, _, rfl, iteT' rfl ?_⟩
      refine ⟨CD, mc2, .int 20, u3, rfl, cr2, cv2, rfl, _, rfl, iteT' rfl ?_⟩
      refine fun x1 dx1 m1 m2 ne => ?_
      refine ⟨x1, dx1, [], rfl, upd_same, rfl, x1, _, rfl, rfl, _, rfl, iteT' (by decide +kernel) ?_⟩
      refine fun x2 dx2 m3 m4 ne2 => ?_
      refine ⟨x2, dx2, [], rfl, upd_same, rfl, x2, _, rfl, rfl, ?_⟩
      exact k _
end
end K03
set_option Elab.async false
set_option linter.all false
set_option maxRecDepth 100000
set_option maxHeartbeats 4000000
/-! Facts about own error classes, by one bit each. -/
namespace Qh
open PySem PySem.Spec PyProof.Rows L2
def oexB (K : PySem.W.Frag) (C : Addr) : Bool := match K.lookup C with
  | some ⟨.type "type", _, .cls cd, sl⟩ => (match cd.mro, sl.toList with
    | .ref C' :: bm, [_, _, _, _, some (.builtin n), _] => ((C' == C && n == "ValueError.__new__") && (!cd.hasDel && cd.hasDict)) && PySem.HandSPX.refsVE bm
    | _, _ => false)
  | _ => false
def oex2B (K : PySem.W.Frag) (C : Addr) : Bool := decide (PySem.W.findIn K (.ref C) "__setattr__" = some (some (.builtin "object.__setattr__"))) && (decide (PySem.W.typeIn K (.ref C) = some (.type "type")) && PySem.W.keepIn K (.ref C))
def ecB (K : PySem.W.Frag) (C : Addr) : Bool := decide (PySem.W.findIn K (.ref C) "__class__" = some (some (.builtin "object.__class__"))) && (decide (PySem.W.specialIn K (.builtin "object.__class__") "__get__" = some (some (.builtin "getset_descriptor.__get__"))) && (decide (PySem.W.takesIn K (.builtin "object.__class__") = some true) && decide (PySem.W.mroIn K C (.type "object") = some true)))
theorem oexB_ok {K : PySem.W.Frag} {C : Addr} (q : oexB K C = true) : ∃ nm q N bs bm sn sub ab col dd k0 k1 k2 k3 k5, K.lookup C = some (excClassObj nm q C N bs bm true sn sub ab col dd k0 k1 k2 k3 k5 "ValueError.__new__") ∧ PySem.HandSPX.refsVE bm = true := by
  unfold oexB at q
  split at q
  · rename_i dd cd sl ho
    split at q
    · rename_i C' bm k0 k1 k2 k3 n k5 hm hs
      simp only [Bool.and_eq_true, beq_iff_eq, Bool.not_eq_true'] at q
      obtain ⟨⟨⟨rfl, rfl⟩, hdel, hdct⟩, ht⟩ := q
      obtain ⟨nm, bs, mro, ns, qn, hd, sn, sub, ab, col, del⟩ := cd
      dsimp only at hm hdel hdct
      subst hm hdel hdct
      have hsl : sl = #[k0, k1, k2, k3, some (.builtin "ValueError.__new__"), k5] := by
        obtain ⟨l⟩ := sl
        simp only at hs
        rw [hs]
      subst hsl
      exact ⟨nm, qn, ns, bs, bm, sn, sub, ab, col, dd, k0, k1, k2, k3, k5, ho, ht⟩
    · cases q
  · cases q
theorem errC_of {K : PySem.W.Frag} {mg : Str → Option Value} {x : Str} {C : Addr} (g : mg x = some (.ref C)) (h1 : oexB K C = true) (h2 : oex2B K C = true) (h3 : xfB K C = true) (h4 : ecB K C = true) : ErrC K mg x C := by
  obtain ⟨a1, a2⟩ := Bool.and_eq_true_iff.mp h2
  obtain ⟨a2, a3⟩ := Bool.and_eq_true_iff.mp a2
  obtain ⟨b1, b2⟩ := Bool.and_eq_true_iff.mp h4
  obtain ⟨b2, b3⟩ := Bool.and_eq_true_iff.mp b2
  obtain ⟨b3, b4⟩ := Bool.and_eq_true_iff.mp b3
  have X := xfB_ok h3
  exact ⟨g, ⟨oexB_ok h1, of_decide_eq_true a1, X.exC, of_decide_eq_true a2, a3⟩, X, ⟨X.ga, X.gg, X.exC, X.hdC, of_decide_eq_true b1, of_decide_eq_true b2, of_decide_eq_true b3, of_decide_eq_true b4⟩⟩
/-- the module's names that are not bound by it -/
def freeB (K : PySem.W.Frag) (xs : List Str) : Bool := xs.all fun x => decide (PySem.W.nsIn K mainGlobals x = some none)
theorem freeB_ok {K : PySem.W.Frag} {h : Heap} {mg : Str → Option Value} (X : K.In h) (G : h.Ns mainGlobals mg) {xs : List Str} (c : freeB K xs = true) {x : Str} (hx : x ∈ xs) : mg x = none :=
  PySem.W.mg_none_of X G (of_decide_eq_true (List.all_eq_true.mp c x hx))
abbrev bltNames : List Str := ["len", "int", "abs", "list", "tuple", "range", "repr", "all", "any", "isinstance", "str", "bool", "dict", "set", "sorted", "enumerate", "zip", "max", "sum", "min", "reversed"]
theorem blt_of {K : PySem.W.Frag} {h : Heap} {mg : Str → Option Value} (X : K.In h) (G : h.Ns mainGlobals mg) (c : freeB K bltNames = true) : Blt mg := by
  have f := fun {x : Str} (hx : x ∈ bltNames) => freeB_ok X G c hx
  exact ⟨f (by decide +kernel), f (by decide +kernel), f (by decide +kernel), f (by decide +kernel), f (by decide +kernel), f (by decide +kernel), f (by decide +kernel), f (by decide +kernel), f (by decide +kernel), f (by decide +kernel), f (by decide +kernel), f (by decide +kernel), f (by decide +kernel), f (by decide +kernel), f (by decide +kernel), f (by decide +kernel), f (by decide +kernel), f (by decide +kernel), f (by decide +kernel), f (by decide +kernel), f (by decide +kernel)⟩
end Qh
set_option Elab.async false
set_option linter.all false
set_option maxRecDepth 100000
set_option maxHeartbeats 4000000
namespace K03
open PySem PySem.Spec PyProof.Rows L2 TL Qh Qi Ql Qu NdefX ClX
abbrev sInitD : Stmt := inClass (top 14) 0
def insB (K : PySem.W.Frag) (C : Addr) : Bool := ((PySem.W.plainGet K C Str.empty && PySem.W.hasDictIn K C) && (PySem.W.plainOver K C && decide (PySem.W.findIn K (.ref C) "__setattr__" = some (some (.builtin "object.__setattr__"))))) &&
  ((decide (PySem.W.findIn K (.ref C) "__class__" = some (some (.builtin "object.__class__"))) && decide (PySem.W.specialIn K (.builtin "object.__class__") "__get__" = some (some (.builtin "getset_descriptor.__get__")))) && (decide (PySem.W.takesIn K (.builtin "object.__class__") = some true) && decide (PySem.W.mroIn K C (.type "object") = some true)))
theorem insB_ok {K : PySem.W.Frag} {C : Addr} (h : insB K C = true) : InsT K C := by
  unfold insB at h
  simp only [Bool.and_eq_true, decide_eq_true_eq] at h
  obtain ⟨⟨⟨a1, a2⟩, a3, a4⟩, ⟨a5, a6⟩, a7, a8⟩ := h
  exact ⟨⟨a1, a2, a3, a4⟩, a5, a6, a7, a8⟩
def numB (K : PySem.W.Frag) (C : Addr) (x : Str) (n : Int) : Bool := match PySem.W.findCls K (.ref C) (.type "type") x with
  | some (.val (.int i _)) => i == n
  | _ => false
theorem numB_ok {K : PySem.W.Frag} {C : Addr} {x : Str} {n : Int} (h : numB K C x n = true) (rd : PySem.W.readsIn K C (.type "type") = true) (ga : PySem.W.specialIn K (.ref C) "__getattribute__" = some (some (.builtin "type.__getattribute__"))) : ∃ mc u, CRead K C mc ∧ CVal K C mc x (.int n) u := by
  unfold numB at h
  split at h
  · rename_i i t e
    have h := beq_iff_eq.mp h
    subst h
    exact ⟨.type "type", _, ⟨rd, ga⟩, ⟨e, ⟨t, rfl⟩⟩⟩
  · cases h
end K03
namespace K03
open PySem PySem.Spec PyProof.Rows L2 TL Qh Qi Ql Qu NdefX ClX
theorem all_mk {l : PySem.W.OpenLaw} {w : World} {K : PySem.W.Frag} {h : Heap} {mg : Str → Option Value} {fa : Addr} (X : K.In h) (G : h.Ns mainGlobals mg) (hfa : mg "law" = some (.ref fa))
    {tA tB : _}
    {fD cc cda : Addr} {ocD dcD pmD ctD ccl cl2 : Value} {odD cdd cld : Option Addr} {slD ccs csl : Array (Option Value)} {vsC : Array Value} {file : Str} {tf : Tok} {cdD : ClassData}
    {f1 : Addr} {oc1 kV1 dc1 pm1 cd1 ct1 : Value} {od1 an1 : Option Addr} {sl1 : Array (Option Value)}
    {f2 : Addr} {oc2 kV2 dc2 pm2 cd2 ct2 : Value} {od2 an2 : Option Addr} {sl2 : Array (Option Value)}
    {f3 : Addr} {oc3 kV3 dc3 pm3 cd3 ct3 : Value} {od3 an3 : Option Addr} {sl3 : Array (Option Value)}
    {f4 : Addr} {oc4 kV4 dc4 pm4 cd4 ct4 : Value} {od4 an4 : Option Addr} {sl4 : Array (Option Value)}
    {f5 : Addr} {oc5 kV5 dc5 pm5 cd5 ct5 : Value} {od5 an5 : Option Addr} {sl5 : Array (Option Value)}
    {f6 : Addr} {oc6 kV6 dc6 pm6 cd6 ct6 : Value} {od6 an6 : Option Addr} {sl6 : Array (Option Value)}
    {f7 : Addr} {oc7 kV7 dc7 pm7 cd7 ct7 : Value} {od7 an7 : Option Addr} {sl7 : Array (Option Value)}
    {f8 : Addr} {oc8 kV8 dc8 pm8 cd8 ct8 : Value} {od8 an8 : Option Addr} {sl8 : Array (Option Value)}
    {f9 : Addr} {oc9 kV9 dc9 pm9 cd9 ct9 : Value} {od9 an9 : Option Addr} {sl9 : Array (Option Value)}
    {f10 : Addr} {oc10 kV10 dc10 pm10 cd10 ct10 : Value} {od10 an10 : Option Addr} {sl10 : Array (Option Value)}
    {f11 : Addr} {oc11 kV11 dc11 pm11 cd11 ct11 : Value} {od11 an11 : Option Addr} {sl11 : Array (Option Value)}
    {f12 : Addr} {oc12 kV12 dc12 pm12 cd12 ct12 : Value} {od12 an12 : Option Addr} {sl12 : Array (Option Value)}
    {f13 : Addr} {oc13 kV13 dc13 pm13 cd13 ct13 : Value} {od13 an13 : Option Addr} {sl13 : Array (Option Value)}
    {CQ : Addr}
    {CE : Addr}
    {f14 : Addr} {oc14 kV14 dc14 pm14 cd14 ct14 : Value} {od14 an14 : Option Addr} {sl14 : Array (Option Value)}
    {CS : Addr}
    {CD : Addr}
    {CT : Addr}
    {f15 : Addr} {oc15 kV15 dc15 pm15 cd15 ct15 : Value} {od15 an15 : Option Addr} {sl15 : Array (Option Value)}
    {f16 : Addr} {oc16 kV16 dc16 pm16 cd16 ct16 : Value} {od16 an16 : Option Addr} {sl16 : Array (Option Value)}
    {f17 : Addr} {oc17 kV17 dc17 pm17 cd17 ct17 : Value} {od17 an17 : Option Addr} {sl17 : Array (Option Value)}
    {f18 : Addr} {oc18 kV18 dc18 pm18 cd18 ct18 : Value} {od18 an18 : Option Addr} {sl18 : Array (Option Value)}
    (a1 : PySem.W.nsIn K mainGlobals "is_letters" = some (some (.ref f1))) (l1 : K.lookup f1 = some ⟨oc1, od1, .func (PySem.W.fnOf "is_letters" "is_letters" (defArgs sLetters) (defBody sLetters) (defScope sLetters) .none kV1 dc1 pm1 an1 cd1 ct1), sl1⟩) (c1 : PySem.W.codeIn K cd1 "is_letters" = true) (k1 : PySem.W.keepIn K (.ref f1) = true)
    (a2 : PySem.W.nsIn K mainGlobals "is_word" = some (some (.ref f2))) (l2 : K.lookup f2 = some ⟨oc2, od2, .func (PySem.W.fnOf "is_word" "is_word" (defArgs sIsWord) (defBody sIsWord) (defScope sIsWord) .none kV2 dc2 pm2 an2 cd2 ct2), sl2⟩) (c2 : PySem.W.codeIn K cd2 "is_word" = true) (k2 : PySem.W.keepIn K (.ref f2) = true)
    (a3 : PySem.W.nsIn K mainGlobals "ascending" = some (some (.ref f3))) (l3 : K.lookup f3 = some ⟨oc3, od3, .func (PySem.W.fnOf "ascending" "ascending" (defArgs sAsc) (defBody sAsc) (defScope sAsc) .none kV3 dc3 pm3 an3 cd3 ct3), sl3⟩) (c3 : PySem.W.codeIn K cd3 "ascending" = true) (k3 : PySem.W.keepIn K (.ref f3) = true)
    (a4 : PySem.W.nsIn K mainGlobals "_law_pen" = some (some (.ref f4))) (l4 : K.lookup f4 = some ⟨oc4, od4, .func (PySem.W.fnOf "_law_pen" "_law_pen" (defArgs sPen) (defBody sPen) (defScope sPen) .none kV4 dc4 pm4 an4 cd4 ct4), sl4⟩) (c4 : PySem.W.codeIn K cd4 "_law_pen" = true) (k4 : PySem.W.keepIn K (.ref f4) = true)
    (a5 : PySem.W.nsIn K mainGlobals "_law_draw" = some (some (.ref f5))) (l5 : K.lookup f5 = some ⟨oc5, od5, .func (PySem.W.fnOf "_law_draw" "_law_draw" (defArgs sDraw) (defBody sDraw) (defScope sDraw) .none kV5 dc5 pm5 an5 cd5 ct5), sl5⟩) (c5 : PySem.W.codeIn K cd5 "_law_draw" = true) (k5 : PySem.W.keepIn K (.ref f5) = true)
    (a6 : PySem.W.nsIn K mainGlobals "_law_pick" = some (some (.ref f6))) (l6 : K.lookup f6 = some ⟨oc6, od6, .func (PySem.W.fnOf "_law_pick" "_law_pick" (defArgs sPick) (defBody sPick) (defScope sPick) .none kV6 dc6 pm6 an6 cd6 ct6), sl6⟩) (c6 : PySem.W.codeIn K cd6 "_law_pick" = true) (k6 : PySem.W.keepIn K (.ref f6) = true)
    (a7 : PySem.W.nsIn K mainGlobals "_law_pool" = some (some (.ref f7))) (l7 : K.lookup f7 = some ⟨oc7, od7, .func (PySem.W.fnOf "_law_pool" "_law_pool" (defArgs sPool) (defBody sPool) (defScope sPool) .none kV7 dc7 pm7 an7 cd7 ct7), sl7⟩) (c7 : PySem.W.codeIn K cd7 "_law_pool" = true) (k7 : PySem.W.keepIn K (.ref f7) = true)
    (a8 : PySem.W.nsIn K mainGlobals "_law_stop" = some (some (.ref f8))) (l8 : K.lookup f8 = some ⟨oc8, od8, .func (PySem.W.fnOf "_law_stop" "_law_stop" (defArgs sStop) (defBody sStop) (defScope sStop) .none kV8 dc8 pm8 an8 cd8 ct8), sl8⟩) (c8 : PySem.W.codeIn K cd8 "_law_stop" = true) (k8 : PySem.W.keepIn K (.ref f8) = true)
    (a9 : PySem.W.nsIn K mainGlobals "_law_drop" = some (some (.ref f9))) (l9 : K.lookup f9 = some ⟨oc9, od9, .func (PySem.W.fnOf "_law_drop" "_law_drop" (defArgs sDrop) (defBody sDrop) (defScope sDrop) .none kV9 dc9 pm9 an9 cd9 ct9), sl9⟩) (c9 : PySem.W.codeIn K cd9 "_law_drop" = true) (k9 : PySem.W.keepIn K (.ref f9) = true)
    (a10 : PySem.W.nsIn K mainGlobals "_law_heard" = some (some (.ref f10))) (l10 : K.lookup f10 = some ⟨oc10, od10, .func (PySem.W.fnOf "_law_heard" "_law_heard" (defArgs sHeard) (defBody sHeard) (defScope sHeard) .none kV10 dc10 pm10 an10 cd10 ct10), sl10⟩) (c10 : PySem.W.codeIn K cd10 "_law_heard" = true) (k10 : PySem.W.keepIn K (.ref f10) = true)
    (a11 : PySem.W.nsIn K mainGlobals "_law_results_right" = some (some (.ref f11))) (l11 : K.lookup f11 = some ⟨oc11, od11, .func (PySem.W.fnOf "_law_results_right" "_law_results_right" (defArgs sResR) (defBody sResR) (defScope sResR) .none kV11 dc11 pm11 an11 cd11 ct11), sl11⟩) (c11 : PySem.W.codeIn K cd11 "_law_results_right" = true) (k11 : PySem.W.keepIn K (.ref f11) = true)
    (a12 : PySem.W.nsIn K mainGlobals "_law_spoilt" = some (some (.ref f12))) (l12 : K.lookup f12 = some ⟨oc12, od12, .func (PySem.W.fnOf "_law_spoilt" "_law_spoilt" (defArgs sSpoilt) (defBody sSpoilt) (defScope sSpoilt) .none kV12 dc12 pm12 an12 cd12 ct12), sl12⟩) (c12 : PySem.W.codeIn K cd12 "_law_spoilt" = true) (k12 : PySem.W.keepIn K (.ref f12) = true)
    (a13 : PySem.W.nsIn K mainGlobals "law" = some (some (.ref f13))) (l13 : K.lookup f13 = some ⟨oc13, od13, .func (PySem.W.fnOf "law" "law" (defArgs sLaw) (defBody sLaw) (defScope sLaw) .none kV13 dc13 pm13 an13 cd13 ct13), sl13⟩) (c13 : PySem.W.codeIn K cd13 "law" = true) (k13 : PySem.W.keepIn K (.ref f13) = true)
    (gCQ : PySem.W.nsIn K mainGlobals "QuoteError" = some (some (.ref CQ)))
    (gCE : PySem.W.nsIn K mainGlobals "InvalidStep" = some (some (.ref CE)))
    (a14 : PySem.W.findIn K (.ref CE) "__init__" = some (some (.ref f14))) (t14 : PySem.W.typeIn K (.ref f14) = some (.type "function")) (l14 : K.lookup f14 = some ⟨oc14, od14, .func (PySem.W.fnOf "__init__" "InvalidStep.__init__" (defArgs sErrInit) (defBody sErrInit) (defScope sErrInit) .none kV14 dc14 pm14 an14 cd14 ct14), sl14⟩) (c14 : PySem.W.codeIn K cd14 "InvalidStep.__init__" = true) (k14 : PySem.W.keepIn K (.ref f14) = true)
    (x1CE : oexB K CE = true)
    (x2CE : oex2B K CE = true)
    (x3CE : xfB K CE = true)
    (x4CE : ecB K CE = true)
    (gCS : PySem.W.nsIn K mainGlobals "Stop" = some (some (.ref CS)))
    (gCD : PySem.W.nsIn K mainGlobals "Drop" = some (some (.ref CD)))
    (gCT : PySem.W.nsIn K mainGlobals "Step" = some (some (.ref CT)))
    (a15 : PySem.W.findIn K (.ref CS) "__init__" = some (some (.ref f15))) (t15 : PySem.W.typeIn K (.ref f15) = some (.type "function")) (l15 : K.lookup f15 = some ⟨oc15, od15, .func (PySem.W.fnOf "__init__" "Stop.__init__" (defArgs sInit) (defBody sInit) (defScope sInit) .none kV15 dc15 pm15 an15 cd15 ct15), sl15⟩) (c15 : PySem.W.codeIn K cd15 "Stop.__init__" = true) (k15 : PySem.W.keepIn K (.ref f15) = true)
    (a16 : PySem.W.findIn K (.ref CS) "result" = some (some (.ref f16))) (t16 : PySem.W.typeIn K (.ref f16) = some (.type "function")) (l16 : K.lookup f16 = some ⟨oc16, od16, .func (PySem.W.fnOf "result" "Stop.result" (defArgs sResS) (defBody sResS) (defScope sResS) .none kV16 dc16 pm16 an16 cd16 ct16), sl16⟩) (c16 : PySem.W.codeIn K cd16 "Stop.result" = true) (k16 : PySem.W.keepIn K (.ref f16) = true)
    (a17 : PySem.W.findIn K (.ref CD) "result" = some (some (.ref f17))) (t17 : PySem.W.typeIn K (.ref f17) = some (.type "function")) (l17 : K.lookup f17 = some ⟨oc17, od17, .func (PySem.W.fnOf "result" "Drop.result" (defArgs sResD) (defBody sResD) (defScope sResD) .none kV17 dc17 pm17 an17 cd17 ct17), sl17⟩) (c17 : PySem.W.codeIn K cd17 "Drop.result" = true) (k17 : PySem.W.keepIn K (.ref f17) = true)
    (a18 : PySem.W.findIn K (.ref CT) "result" = some (some (.ref f18))) (t18 : PySem.W.typeIn K (.ref f18) = some (.type "function")) (l18 : K.lookup f18 = some ⟨oc18, od18, .func (PySem.W.fnOf "result" "Step.result" (defArgs sResT) (defBody sResT) (defScope sResT) .none kV18 dc18 pm18 an18 cd18 ct18), sl18⟩) (c18 : PySem.W.codeIn K cd18 "Step.result" = true) (k18 : PySem.W.keepIn K (.ref f18) = true)
    (fr : freeB K bltNames = true)
    (ex : PySem.W.exmOne K (.ref CE) (.ref CQ) = some true)
    (kEE : PySem.W.kitOne K (.ref CE) (.ref CE) = some true)
    (fe : freeB K ["super"] = true)
    (i1 : insB K CS = true)
    (i2 : insB K CD = true)
    (i3 : insB K CT = true)
    (r1 : PySem.W.readsIn K CS (.type "type") = true)
    (r2 : PySem.W.readsIn K CD (.type "type") = true)
    (g1 : PySem.W.specialIn K (.ref CS) "__getattribute__" = some (some (.builtin "type.__getattribute__")))
    (g2 : PySem.W.specialIn K (.ref CD) "__getattribute__" = some (some (.builtin "type.__getattribute__")))
    (m1 : numB K CS "MOST" 20 = true)
    (m2 : numB K CD "MOST" 20 = true)
    (w1 : PySem.W.makesIn K CS = true)
    (w2 : PySem.W.makesIn K CD = true)
    (w3 : PySem.W.makesIn K CT = true)
    (e1 : PySem.W.keepIn K (.ref CS) = true)
    (e2 : PySem.W.keepIn K (.ref CD) = true)
    (e3 : PySem.W.keepIn K (.ref CT) = true)
    (kDS : PySem.W.kitOne K (.ref CD) (.ref CS) = some true)
    (kSD : PySem.W.kitOne K (.ref CS) (.ref CD) = some false)
    (kST : PySem.W.kitOne K (.ref CS) (.ref CT) = some true)
    (su : PySem.W.ks_superIn K CD CD "__init__" = some (some (.ref f15)))
    (fn2 : PySem.W.fnIn K f15 = true)
    (gA : PySem.W.nsIn K mainGlobals "MOST_LETTERS" = some (some (.int 10 tA)))
    (gB : PySem.W.nsIn K mainGlobals "HOLE" = some (some (.str hole tB)))
    (no1 : PySem.W.findIn K (.ref CE) "reason" = some none)
    (no2 : PySem.W.findIn K (.ref CE) "index" = some none)
    (no3 : PySem.W.findIn K (.ref CS) "words" = some none)
    (no4 : PySem.W.findIn K (.ref CD) "words" = some none)
    (no5 : PySem.W.findIn K (.ref CT) "__init__" = some (some (.builtin "object.__init__")))
    (aD : PySem.W.findIn K (.ref CD) "__init__" = some (some (.ref fD)))
    (tD : PySem.W.typeIn K (.ref fD) = some (.type "function"))
    (lD : K.lookup fD = some ⟨ocD, odD, .func (PySem.W.fnX "__init__" "Drop.__init__" (defArgs sInitD) (defBody sInitD) (defScope sInitD) [(Str.ofString "__class__", cc)] .none .none dcD pmD none (.ref cda) ctD), slD⟩)
    (cD : PySem.W.codeIn K (.ref cda) "Drop.__init__" = true)
    (hcode : K.lookup cda = some ⟨ccl, cdd, .fields vsC, ccs⟩)
    (hvs : vsC[2]? = some (.str file tf))
    (hfile : ((l.prog.main.file : Str) == file) = true)
    (htop : (l.prog.main.scope.names.lookup ("super" : Str)).isSome = false)
    (hcell : K.lookup cc = some ⟨cl2, cld, .cell (some (.ref CD)), csl⟩)
    (hDc : PySem.W.clsIn K CD = some cdD)
    (hsub : PySem.W.mroIn K CD (.ref CD) = some true)
    (hop : PySem.W.nsIn K cStatics "thirdparty.any" = some none) :
    ∃ fd : FuncData, (∀ (s : Shared) (v : Value), BindsTo s fd ⟨[v], []⟩ [("_law_script", v)]) ∧ ∀ base : Heap, K.In base → base.Ns mainGlobals mg → FnG l.prog w K mg base (L2.CX l.prog w) 10 fa fd ["_law_script"] (spLaw K) := by
  have e := hfa.symm.trans (PySem.W.mg_of X G a13)
  cases e
  have Fn1 : Fun K "is_letters" "is_letters" sLetters f1 _ := fun_mk (st := sLetters) l1 c1 k1
  have D_is_letters : DefIn K mg "is_letters" sLetters := ⟨⟨f1, _, Fn1, PySem.W.mg_of X G a1⟩⟩
  have Fn2 : Fun K "is_word" "is_word" sIsWord f2 _ := fun_mk (st := sIsWord) l2 c2 k2
  have D_is_word : DefIn K mg "is_word" sIsWord := ⟨⟨f2, _, Fn2, PySem.W.mg_of X G a2⟩⟩
  have Fn3 : Fun K "ascending" "ascending" sAsc f3 _ := fun_mk (st := sAsc) l3 c3 k3
  have D_ascending : DefIn K mg "ascending" sAsc := ⟨⟨f3, _, Fn3, PySem.W.mg_of X G a3⟩⟩
  have Fn4 : Fun K "_law_pen" "_law_pen" sPen f4 _ := fun_mk (st := sPen) l4 c4 k4
  have D__law_pen : DefIn K mg "_law_pen" sPen := ⟨⟨f4, _, Fn4, PySem.W.mg_of X G a4⟩⟩
  have Fn5 : Fun K "_law_draw" "_law_draw" sDraw f5 _ := fun_mk (st := sDraw) l5 c5 k5
  have D__law_draw : DefIn K mg "_law_draw" sDraw := ⟨⟨f5, _, Fn5, PySem.W.mg_of X G a5⟩⟩
  have Fn6 : Fun K "_law_pick" "_law_pick" sPick f6 _ := fun_mk (st := sPick) l6 c6 k6
  have D__law_pick : DefIn K mg "_law_pick" sPick := ⟨⟨f6, _, Fn6, PySem.W.mg_of X G a6⟩⟩
  have Fn7 : Fun K "_law_pool" "_law_pool" sPool f7 _ := fun_mk (st := sPool) l7 c7 k7
  have D__law_pool : DefIn K mg "_law_pool" sPool := ⟨⟨f7, _, Fn7, PySem.W.mg_of X G a7⟩⟩
  have Fn8 : Fun K "_law_stop" "_law_stop" sStop f8 _ := fun_mk (st := sStop) l8 c8 k8
  have D__law_stop : DefIn K mg "_law_stop" sStop := ⟨⟨f8, _, Fn8, PySem.W.mg_of X G a8⟩⟩
  have Fn9 : Fun K "_law_drop" "_law_drop" sDrop f9 _ := fun_mk (st := sDrop) l9 c9 k9
  have D__law_drop : DefIn K mg "_law_drop" sDrop := ⟨⟨f9, _, Fn9, PySem.W.mg_of X G a9⟩⟩
  have Fn10 : Fun K "_law_heard" "_law_heard" sHeard f10 _ := fun_mk (st := sHeard) l10 c10 k10
  have D__law_heard : DefIn K mg "_law_heard" sHeard := ⟨⟨f10, _, Fn10, PySem.W.mg_of X G a10⟩⟩
  have Fn11 : Fun K "_law_results_right" "_law_results_right" sResR f11 _ := fun_mk (st := sResR) l11 c11 k11
  have D__law_results_right : DefIn K mg "_law_results_right" sResR := ⟨⟨f11, _, Fn11, PySem.W.mg_of X G a11⟩⟩
  have Fn12 : Fun K "_law_spoilt" "_law_spoilt" sSpoilt f12 _ := fun_mk (st := sSpoilt) l12 c12 k12
  have D__law_spoilt : DefIn K mg "_law_spoilt" sSpoilt := ⟨⟨f12, _, Fn12, PySem.W.mg_of X G a12⟩⟩
  have Fn13 : Fun K "law" "law" sLaw fa _ := fun_mk (st := sLaw) l13 c13 k13
  have mCQ : mg "QuoteError" = some (.ref CQ) := PySem.W.mg_of X G gCQ
  have mCE : mg "InvalidStep" = some (.ref CE) := PySem.W.mg_of X G gCE
  have Fn14 : Fun K "__init__" "InvalidStep.__init__" sErrInit f14 _ := fun_mk (st := sErrInit) l14 c14 k14
  have biCE : Binds K _ ["self", "reason", "index"] [] := Fn14.binds (ps := ["self", "reason", "index"]) fun _ _ _ _ _ _ us hl => match us, hl with | [_, _, _], _ => rfl
  have ECE : ErrC K mg "InvalidStep" CE := errC_of mCE x1CE x2CE x3CE x4CE
  have mCS : mg "Stop" = some (.ref CS) := PySem.W.mg_of X G gCS
  have mCD : mg "Drop" = some (.ref CD) := PySem.W.mg_of X G gCD
  have mCT : mg "Step" = some (.ref CT) := PySem.W.mg_of X G gCT
  have Fn15 : Fun K "__init__" "Stop.__init__" sInit f15 _ := fun_mk (st := sInit) l15 c15 k15
  have Fn16 : Fun K "result" "Stop.result" sResS f16 _ := fun_mk (st := sResS) l16 c16 k16
  have bm16 : Binds K _ ["self", "value"] [] := Fn16.binds (ps := ["self", "value"]) fun _ _ _ _ _ _ us hl => match us, hl with | [_, _], _ => rfl
  have Fn17 : Fun K "result" "Drop.result" sResD f17 _ := fun_mk (st := sResD) l17 c17 k17
  have bm17 : Binds K _ ["self", "value"] [] := Fn17.binds (ps := ["self", "value"]) fun _ _ _ _ _ _ us hl => match us, hl with | [_, _], _ => rfl
  have Fn18 : Fun K "result" "Step.result" sResT f18 _ := fun_mk (st := sResT) l18 c18 k18
  have bm18 : Binds K _ ["self", "value"] [] := Fn18.binds (ps := ["self", "value"]) fun _ _ _ _ _ _ us hl => match us, hl with | [_, _], _ => rfl
  have B : Blt mg := blt_of X G fr
  refine ⟨PySem.W.fnOf "law" "law" (defArgs sLaw) (defBody sLaw) (defScope sLaw) .none kV13 dc13 pm13 an13 cd13 ct13, fun s v => .of_eq rfl, fun base _ _ => ?_⟩

  have hA : ∃ t, mg "MOST_LETTERS" = some (.int 10 t) := ⟨_, PySem.W.mg_of X G gA⟩
  have hB : ∃ t, mg "HOLE" = some (.str hole t) := ⟨_, PySem.W.mg_of X G gB⟩
  have nSu : mg "super" = none := freeB_ok X G fe (by decide +kernel)
  have no : ∀ x ∈ (["reason", "index"] : List Str), PySem.W.findIn K (.ref CE) x = some none := fun x hx => by
    rcases List.mem_cons.mp hx with rfl | hx
    · exact no1
    · rw [List.mem_singleton.mp hx]
      exact no2
  have TE : Qi.ErrN l.prog w K mg base "InvalidStep" ["reason", "index"] CE := ⟨ECE, no, ⟨_, _, a14, t14, biCE, ok_errInit Fn14 ECE.o no⟩⟩
  have I1 := insB_ok i1
  have I2 := insB_ok i2
  have I3 := insB_ok i3
  have TS : StopC K mg CS := ⟨mCS, numB_ok m1 r1 g1⟩
  have WS : InsW K CS := ⟨I1.cl, no3⟩
  have WD : InsW K CD := ⟨I2.cl, no4⟩
  have letters := ok_letters (P := l.prog) (w := w) (base := base) D_is_letters B
  have isWord := ok_isWord D_is_word hA letters
  have asc := ok_asc (P := l.prog) (w := w) (base := base) D_ascending B
  have pen := ok_pen (P := l.prog) (w := w) (base := base) D__law_pen B
  have draw := ok_draw (P := l.prog) (w := w) (base := base) D__law_draw B
  have pick := ok_pick D__law_pick B draw
  have pool := ok_pool (P := l.prog) (w := w) (base := base) D__law_pool
  have initS := ok_init (CI := CS) Fn15 B TS WS TE isWord asc
  have initSD := ok_init (CI := CD) Fn15 B TS WD TE isWord asc
  have hm : PySem.W.alongIn K "__init__" ((cdD.mro.dropWhile (· != .ref CD)).drop 1) = some (some (.ref f15)) := by
    have z := su
    unfold PySem.W.ks_superIn at z
    rw [hDc] at z
    exact z
  have initD : FnR l.prog w K mg base (L2.CX l.prog w) 5 fD (spInitDrop K CD CE) :=
    fn_superStar (F := ⟨"__init__", "Drop.__init__", defArgs sInitD, defBody sInitD, defScope sInitD, [(Str.ofString "__class__", cc)], cda⟩) (N := ["self", "words", "__class__"]) lD cD (show NScope ["self", "words", "__class__"] ["self", "words"] ["__class__"] (defScope sInitD) from nscope_by (by decide +kernel)) rfl rfl (fun u rest => match rest with | [] => rfl | _ :: _ => rfl) rfl rfl hcode hvs hfile htop hcell hDc hDc hsub nSu (show (defScope sInitD).names.lookup ("super" : Str) = some .globalImplicit from by decide +kernel) hop hm t15 fn2 initSD
  have MS : Mk K CS f15 := ⟨w1, a15, beq_iff_eq.mpr t15, e1⟩
  have MD : Mk K CD fD := ⟨w2, aD, beq_iff_eq.mpr tD, e2⟩
  have stop := ok_stop D__law_stop B mCS MS initS
  have drop := ok_drop D__law_drop B mCD MD initD
  have gs : mg "_law_stop" = some (.ref f8) := PySem.W.mg_of X G a8
  have gd : mg "_law_drop" = some (.ref f9) := PySem.W.mg_of X G a9
  have A1 : ∀ f sp, asked K CS CD CE f8 f9 f sp → HeldS l.prog w K mg base 7 f sp := by
    rintro f sp (⟨rfl, rfl⟩ | ⟨rfl, rfl⟩)
    · obtain ⟨g, body, scope, kV, doc, pm, an, cdv, ct, hmg, hk, hb, F⟩ := stop.ex
      have e := gs.symm.trans hmg
      cases e
      exact ⟨⟨_, _, F.mono (by decide), hk, bindsOf hb⟩⟩
    · obtain ⟨g, body, scope, kV, doc, pm, an, cdv, ct, hmg, hk, hb, F⟩ := drop.ex
      have e := gd.symm.trans hmg
      cases e
      exact ⟨⟨_, _, F, hk, bindsOf hb⟩⟩
  have heard := ok_heard D__law_heard B TE mCQ ex kEE A1
  have FS := ok_resS (P := l.prog) (w := w) (base := base) Fn16 WS hB
  have FDr := ok_resD (P := l.prog) (w := w) (mg := mg) (base := base) Fn17 WD
  have FT := ok_resT (P := l.prog) (w := w) (mg := mg) (base := base) Fn18
  have RS : ResM l.prog w K mg base CS (.str hole) := ⟨WS, I1, ⟨_, _, ⟨a16, beq_iff_eq.mpr t16, k16⟩, bm16, (fun u ws hl => match ws, hl with | [_], _ => rfl), FS⟩⟩
  have RD : ResM l.prog w K mg base CD .non := ⟨WD, I2, ⟨_, _, ⟨a17, beq_iff_eq.mpr t17, k17⟩, bm17, (fun u ws hl => match ws, hl with | [_], _ => rfl), FDr⟩⟩
  have rS := ok_resR (.inl rfl) D__law_results_right B RS pool
  have rD := ok_resR (.inr rfl) D__law_results_right B RD pool
  have spoilt := ok_spoilt D__law_spoilt B draw pick pool
  have MT : StepT l.prog w K mg base CT := ⟨mCT, I3.cl, w3, no5, I3.hm, e3, ⟨_, _, ⟨a18, beq_iff_eq.mpr t18, k18⟩, bm18, FT⟩⟩
  exact ok_law Fn13 B TS mCD (numB_ok m2 r2 g2) MT I1 I2 kDS kSD kST gs gd pen draw pick pool stop drop heard rS rD spoilt
theorem walk {l : PySem.W.OpenLaw} {q : Program} {loose : List Str} {XP : (Str → Option Value) → Heap → Prop} {YP : World → Heap → Prop} {d : DefRec} {K : Params → PySem.W.Frag} (hn : l.most = some 63) (hdf : d.params.defaults = [])
    (hY : ∀ (w : World) (h : Heap), YP w h → (K w.params).In h)
    (F : ∀ (w : World) (mg : Str → Option Value) (fa : Addr) (h : Heap), (K w.params).In h → h.Ns mainGlobals mg → mg d.name = some (.ref fa) →
      ∃ fd : FuncData, (∀ (s : Shared) (u : Value), BindsTo s fd ⟨[u], []⟩ [("_law_script", u)]) ∧ ∀ base : Heap, (K w.params).In base → base.Ns mainGlobals mg → FnG l.prog w (K w.params) mg base (L2.CX l.prog w) 10 fa fd ["_law_script"] (spLaw (K w.params))) :
    PySem.W.WalkO q loose XP YP l.row.toRowW d [] (fun f vs => PySem.call f vs) :=
  Qh.walk_ofG (n := 63) (k := 10) (x := "_law_script") (CX := fun w => L2.CX l.prog w) (sp := fun w => spLaw (K w.params)) hn (by decide) hdf ⟨rfl, by decide, by decide⟩ hY F (fun _ _ a ns _ _ hS => ⟨a, ns, rfl, hS, fun _ => rfl⟩) fun _ _ _ _ _ h => by
    obtain ⟨_, _, _, _, _, _, _, _, _, _, _, _, z⟩ := h
    exact z.elim
end K03
open PySem PySem.W PyProof.Rows
set_option maxRecDepth 100000 in
set_option maxHeartbeats 0 in
theorem PySem.Challenge.cw_quotehome_k03_stop_and_drop_holds : PySem.Challenge.rw_quotehome_k03_stop_and_drop.Holds := by
  w_on; o_law; k_head; (case hw => w_witness2)
  k_fill
  refine K03.walk (l := PySem.Challenge.rw_quotehome_k03_stop_and_drop) rfl rfl (fun w h Y => PySem.W.kIn_of Y) ?F
  case F =>
    intro w mg fa h KX G hmg
    refine' K03.all_mk KX G hmg ?a1 ?l1 ?c1 ?k1 ?a2 ?l2 ?c2 ?k2 ?a3 ?l3 ?c3 ?k3 ?a4 ?l4 ?c4 ?k4 ?a5 ?l5 ?c5 ?k5 ?a6 ?l6 ?c6 ?k6 ?a7 ?l7 ?c7 ?k7 ?a8 ?l8 ?c8 ?k8 ?a9 ?l9 ?c9 ?k9 ?a10 ?l10 ?c10 ?k10 ?a11 ?l11 ?c11 ?k11 ?a12 ?l12 ?c12 ?k12 ?a13 ?l13 ?c13 ?k13 ?gCQ ?gCE ?a14 ?t14 ?l14 ?c14 ?k14 ?x1CE ?x2CE ?x3CE ?x4CE ?gCS ?gCD ?gCT ?a15 ?t15 ?l15 ?c15 ?k15 ?a16 ?t16 ?l16 ?c16 ?k16 ?a17 ?t17 ?l17 ?c17 ?k17 ?a18 ?t18 ?l18 ?c18 ?k18 ?fr ?ex ?kEE ?fe ?i1 ?i2 ?i3 ?r1 ?r2 ?g1 ?g2 ?m1 ?m2 ?w1 ?w2 ?w3 ?e1 ?e2 ?e3 ?kDS ?kSD ?kST ?su ?fn2 ?gA ?gB ?no1 ?no2 ?no3 ?no4 ?no5 ?aD ?tD ?lD ?cD ?hcode ?hvs ?hfile ?htop ?hcell ?hDc ?hsub ?hop
    (case a1 => k_is)
    (case l1 => k_is)
    (case c1 => k_is)
    (case k1 => k_is)
    (case a2 => k_is)
    (case l2 => k_is)
    (case c2 => k_is)
    (case k2 => k_is)
    (case a3 => k_is)
    (case l3 => k_is)
    (case c3 => k_is)
    (case k3 => k_is)
    (case a4 => k_is)
    (case l4 => k_is)
    (case c4 => k_is)
    (case k4 => k_is)
    (case a5 => k_is)
    (case l5 => k_is)
    (case c5 => k_is)
    (case k5 => k_is)
    (case a6 => k_is)
    (case l6 => k_is)
    (case c6 => k_is)
    (case k6 => k_is)
    (case a7 => k_is)
    (case l7 => k_is)
    (case c7 => k_is)
    (case k7 => k_is)
    (case a8 => k_is)
    (case l8 => k_is)
    (case c8 => k_is)
    (case k8 => k_is)
    (case a9 => k_is)
    (case l9 => k_is)
    (case c9 => k_is)
    (case k9 => k_is)
    (case a10 => k_is)
    (case l10 => k_is)
    (case c10 => k_is)
    (case k10 => k_is)
    (case a11 => k_is)
    (case l11 => k_is)
    (case c11 => k_is)
    (case k11 => k_is)
    (case a12 => k_is)
    (case l12 => k_is)
    (case c12 => k_is)
    (case k12 => k_is)
    (case a13 => k_is)
    (case l13 => k_is)
    (case c13 => k_is)
    (case k13 => k_is)
    (case gCQ => k_is)
    (case gCE => k_is)
    (case a14 => k_is)
    (case t14 => k_is)
    (case l14 => k_is)
    (case c14 => k_is)
    (case k14 => k_is)
    (case x1CE => kernel_rfl)
    (case x2CE => kernel_rfl)
    (case x3CE => kernel_rfl)
    (case x4CE => kernel_rfl)
    (case gCS => k_is)
    (case gCD => k_is)
    (case gCT => k_is)
    (case a15 => k_is)
    (case t15 => k_is)
    (case l15 => k_is)
    (case c15 => k_is)
    (case k15 => k_is)
    (case a16 => k_is)
    (case t16 => k_is)
    (case l16 => k_is)
    (case c16 => k_is)
    (case k16 => k_is)
    (case a17 => k_is)
    (case t17 => k_is)
    (case l17 => k_is)
    (case c17 => k_is)
    (case k17 => k_is)
    (case a18 => k_is)
    (case t18 => k_is)
    (case l18 => k_is)
    (case c18 => k_is)
    (case k18 => k_is)
    (case fr => kernel_rfl)
    (case ex => kernel_rfl)
    (case kEE => kernel_rfl)
    (case fe => kernel_rfl)
    (case i1 => kernel_rfl)
    (case i2 => kernel_rfl)
    (case i3 => kernel_rfl)
    (case r1 => kernel_rfl)
    (case r2 => kernel_rfl)
    (case g1 => kernel_rfl)
    (case g2 => kernel_rfl)
    (case m1 => kernel_rfl)
    (case m2 => kernel_rfl)
    (case w1 => kernel_rfl)
    (case w2 => kernel_rfl)
    (case w3 => kernel_rfl)
    (case e1 => kernel_rfl)
    (case e2 => kernel_rfl)
    (case e3 => kernel_rfl)
    (case kDS => kernel_rfl)
    (case kSD => kernel_rfl)
    (case kST => kernel_rfl)
    (case su => kernel_rfl)
    (case fn2 => kernel_rfl)
    (case gA => k_is)
    (case gB => k_is)
    (case no1 => k_is)
    (case no2 => k_is)
    (case no3 => k_is)
    (case no4 => k_is)
    (case no5 => k_is)
    (case aD => k_is)
    (case tD => k_is)
    (case lD => k_is)
    (case cD => kernel_rfl)
    (case hcode => k_is)
    (case hvs => exact rfl)
    (case hfile => kernel_rfl)
    (case htop => kernel_rfl)
    (case hcell => k_is)
    (case hDc => k_is)
    (case hsub => k_is)
    (case hop => k_is)
