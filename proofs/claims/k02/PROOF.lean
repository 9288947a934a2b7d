import PyProof.Rows.All
import Wide.All
import OpenK.AllK
import Wide.FinOn
import HandS.ForMost
import HandS.ForExc
import HandS.ExcInit
import HandS.ExcIs
import HandS.Deep
import HandS.Defaults
import HandS.ExcField
import HandS.ExcValue
import KE.KExcIs
import HandS.Text
import HandS.TupLe
import HandS.IsInst
import HandS.Steps
import HandS.Walk
import HandS.StrMore
import HandS.More
import HandS.FStrTup
import PySem.Challenge.RW_quotehome_k02_words_and_texts
set_option Elab.async false
set_option linter.all false
set_option maxRecDepth 100000
set_option maxHeartbeats 4000000
/-! Calls where no repr is under way (guards): the def's promise, its body, its call, the law's end. -/
namespace Qh
open PySem PySem.Spec PyProof.Rows L2
section
variable {P : Program} {w : World} {K : PySem.W.Frag} {mg : Str → Option Value} {base : Heap} {CX : CXT} {k : Nat} {f : Addr} {fd : FuncData} {ps : List Str} {sp : Sp}

/-- one call of f, at the around A -/
def RunAt (P : Program) (w : World) (K : PySem.W.Frag) (mg : Str → Option Value) (base : Heap) (CX : CXT) (k : Nat) (f : Addr) (fd : FuncData) (ps : List Str) (sp : Sp) (A : Around) : Prop :=
  ∀ (out : List Env) (t : Shared) (G : Hp) (xs : Args) (us : List Value) (vs : List V) (Q : VK) (E : XK),
    Room k A → Env0 P w K mg base A out t G → BindsTo t fd xs (ps.zip us) → Vals vs us → sp vs G Q E →
      codeAny (model P w) A (.call (.ref f) xs) (CR CX out P w G t Q E) t

/-- the promise of a def that is called where no repr is under way -/
structure FnG (P : Program) (w : World) (K : PySem.W.Frag) (mg : Str → Option Value) (base : Heap) (CX : CXT) (k : Nat) (f : Addr) (fd : FuncData) (ps : List Str) (sp : Sp) : Prop where
  len : ∀ vs G Q E, sp vs G Q E → vs.length = ps.length
  run : ∀ A : Around, A.guards = some [] → RunAt P w K mg base CX k f fd ps sp A

theorem FnG.of (F : FnOk P w K mg base CX k f fd ps sp) : FnG P w K mg base CX k f fd ps sp :=
  ⟨F.len, fun A _ out t G xs us vs Q E hr e0 hb r h => F.run A out t G xs us vs Q E hr e0 hb r h⟩

theorem runAt_of {A : Around} {name qual : Str} {params : Arguments} {body : List Stmt} {scope : Scope} {dV kV doc pm cdv ct oc : Value} {an od : Option Addr} {osl : Array (Option Value)} {N : List Str}
    (lk : K.lookup f = some ⟨oc, od, .func (PySem.W.fnOf name qual params body scope dV kV doc pm an cdv ct), osl⟩)
    (hcd : PySem.W.codeIn K cdv qual = true) (S : FnScope N ps scope)
    (len : ∀ vs G Q E, sp vs G Q E → vs.length = ps.length)
    (hbody : ∀ (out : List Env) (t : Shared) (G : Hp) (vs : List V) (Q : VK) (E : XK),
      Room k (A.deeper (envOfC qual scope t.heap.objs.size f cdv)) → sp vs G Q E →
      ∃ rd, PSs (cxOf CX P w K mg base N qual scope f cdv A out t G E) body rd ∧ rd { nx := fun _ G' => Q .non G', rt := Q } (start N vs) G) :
    RunAt P w K mg base CX (k + 1) f (PySem.W.fnOf name qual params body scope dV kV doc pm an cdv ct) ps sp A := by
  intro out t G xs us vs Q E room e0 binds rel want
  have kin : K.In t.heap := e0.mod.kin.keeps fun a o h => (e0.bs a o h).1
  have nolim : t.heap.NoLimit := e0.mod.nolimit.keeps fun a o h => (e0.bs a o h).1
  have kinds : ∀ y ∈ ps.zip us, scope.names.lookup y.1 = some .local ∨ (scope.names.lookup y.1 = some .cell ∧
      ((cellsFrom (t.heap.objs.size + 1) scope.names []).lookup y.1).isSome = true) := by
    rintro ⟨n, v⟩ hy
    cases S.par n (List.of_mem_zip hy).1 with
    | inl q => exact Or.inl q
    | inr q => exact Or.inr ⟨q, PySem.W.cellsFrom_some _ _ _ (.inl q)⟩
  refine codeAny_call_function room.depth (kin _ _ lk) rfl S.co S.gen rfl (PySem.W.codeRec_of kin hcd) (binds _ _ _ _ ?_)
  refine wpAny_newFunctionEnv_cells S.kind kinds fun env he s1 inside => ?_
  subst he
  refine ⟨nolim.keeps inside.toInCall.keep, codeAny_func ?_⟩
  obtain ⟨rd, hrd, hq⟩ := hbody out t G vs Q E (room.deeper _) want
  have I := inv_start (CX := CX) (E := E) S room.hd e0 (len _ _ _ _ want) rel inside
  refine wpAny_mono (hrd.run [] s1 (start N vs) G _ I hq) ?_ (fun _ _ z => z)
  intro flow s2 hs
  cases flow with
  | ret u =>
    obtain ⟨v, σ', G', J, rv, q⟩ := hs
    exact ⟨v, G', J.os, J.bare, J.base, J.hok, rv, q⟩
  | next =>
    obtain ⟨σ', G', J, q⟩ := hs
    exact ⟨V.non, G', J.os, J.bare, J.base, J.hok, rfl, q⟩
  | brk => exact (hs.elim fun _ z => z.elim fun _ z => z.2).elim
  | cont => exact (hs.elim fun _ z => z.elim fun _ z => z.2).elim

theorem okG {x qual : Str} {st : Stmt} {N : List Str} (F : Fun K x qual st f fd) (S : FnScope N ps (defScope st)) (len : ∀ vs G Q E, sp vs G Q E → vs.length = ps.length)
    (hbody : ∀ (cdv : Value) (A : Around) (out : List Env) (t : Shared) (G : Hp) (vs : List V) (Q : VK) (E : XK), A.guards = some [] →
      Room k (A.deeper (envOfC qual (defScope st) t.heap.objs.size f cdv)) → sp vs G Q E →
      ∃ rd, PSs (cxOf CX P w K mg base N qual (defScope st) f cdv A out t G E) (defBody st) rd ∧ rd { nx := fun _ G' => Q .non G', rt := Q } (start N vs) G) :
    FnG P w K mg base CX (k + 1) f fd ps sp := by
  obtain ⟨oc, od, kV, doc, pm, an, cdv, ct, osl, rfl, lk, hcd⟩ := F.ex
  exact ⟨len, fun A hg => runAt_of lk hcd S len fun out t G vs Q E room want => hbody cdv A out t G vs Q E hg room want⟩
end
section
variable {X : Cx} {CX : CXT} {k : Nat} {f : Addr} {fd : FuncData} {ps : List Str} {sp : Sp} {dvs : List V} {ds : List Value} {E : XK} {x : Str} {p pos : Pos} {e : Expr} {es : List Expr} {t : TA}
end

/-! ### the law's end -/
theorem law_callG {P : Program} {w : World} {K : PySem.W.Frag} {mg mb : Str → Option Value} {CX : CXT} {k : Nat} {fa a : Addr} {fd : FuncData} {x : Str} {sp : Sp} {t : Shared} {vs : List Value} {ns : List Int}
    (kin : K.In t.heap) (hns : t.heap.Ns mainGlobals mg) (hb : t.heap.Ns builtinsNs mb) (hbb : ∀ x : Str, x ≠ "__name__" → mb x = bootBuiltins x) (hlim : t.heap.NoLimit) (hgen : t.gens = #[])
    (ha : t.heap.get? a = some { cls := .type "list", data := .seq vs.toArray }) (hi : IntsAre vs ns) (hl : ns.length ≤ sizeLine) (room : Room k callerA)
    (F : ∀ base : Heap, K.In base → base.Ns mainGlobals mg → FnG P w K mg base CX k fa fd [x] sp) (hbind : ∀ (s : Shared) (u : Value), BindsTo s fd ⟨[u], []⟩ [(x, u)])
    (hsp : ∀ G : Hp, Only G → SqL K G a (ns.map V.int) → sp [.ref a] G (fun v _ => v = .bl true) fun _ _ _ => False)
    (hCX : ∀ G e s', CX [] G t (fun _ _ _ => False) e s' → False) :
    codeAny (model P w) callerA (.call (.ref fa) ⟨[.ref a], []⟩) (fun r s' => r = .ok (.ret (.bool true)) ∧ OldK t.heap s'.heap ∧ s'.os = t.os ∧ AllBare s'.gens) t := by
  have rel := L2.vals_ints hi
  have count := hi.length
  have none_in : ∀ b : Addr, b ∉ frs ([] : List Env) := fun b h => (by simpa [frs] using h)
  -- G tracks nothing but, perhaps, the script
  have main : ∀ G : Hp, Only G → SqL K G a (ns.map V.int) → HOk P w G t.heap → (∀ b u, G b = some u → b = a ∧ K.lookup a = none) →
      codeAny (model P w) callerA (.call (.ref fa) ⟨[.ref a], []⟩) (fun r s' => r = .ok (.ret (.bool true)) ∧ OldK t.heap s'.heap ∧ s'.os = t.os ∧ AllBare s'.gens) t := by
    intro G only seq hok which
    have plain : ∀ {b : Addr} {m : Str → Option Value}, t.heap.Ns b m → (hidT t.heap G).Ns b m := by
      rintro b m ⟨o, es, ep, e, d, r⟩
      refine ⟨o, es, ep, hidT_get e ?_, d, r⟩
      cases q : G b with
      | none => rfl
      | some u =>
        obtain ⟨rfl, _⟩ := which b u q
        rw [ha] at e
        injection e with e
        subst e
        cases d
    have kinB : K.In (hidT t.heap G) := fun b o e => hidT_get (kin b o e) (by
      cases q : G b with
      | none => rfl
      | some u =>
        obtain ⟨rfl, z⟩ := which b u q
        rw [z] at e
        cases e)
    have modB : Mod K mg (hidT t.heap G) := ⟨kinB, plain hns, ⟨mb, plain hb, hbb⟩, by
      obtain ⟨mc, h1, h2⟩ := hlim
      exact ⟨mc, plain h1, h2⟩⟩
    have start0 : Env0 P w K mg (hidT t.heap G) callerA [] t G :=
      { frames := rfl, mod := modB, bs := fun b o e => of_hidT e, bsz := Nat.le_of_eq (hidT_size _ _), funs := trivial, frf := fun b h => absurd h (none_in b), hok := hok, bare := .of_eq hgen }
    refine codeAny_mono ((F _ kinB (plain hns)).run callerA rfl [] t G ⟨[.ref a], []⟩ [.ref a] [.ref a] _ _ room start0 (hbind t (.ref a)) (.cons rfl .nil) (hsp G only seq)) ?_
    rintro (e | fl) s' h
    · exact (hCX G e s' h).elim
    · cases fl with
      | next => exact h.elim
      | brk => exact h.elim
      | cont => exact h.elim
      | ret u =>
        obtain ⟨v, G', hos, bare, un, hok', ru, rfl⟩ := h
        have ru' : u = Value.bool true := ru
        subst ru'
        refine ⟨rfl, OldK.of_keep fun b o e => ?_, hos, bare⟩
        cases q : G b with
        | none => exact un.keep b o e q (none_in b) (by simp)
        | some u =>
          obtain z | ⟨ob, xs, z⟩ := only b
          · rw [q] at z
            cases z
          · have e1 := (hok b _ z).1
            have e2 := (hok' b _ (un.frzs b ob _ z)).1
            rw [e] at e1
            injection e1 with e1
            rw [e1]
            exact e2
  have size : (ns.map V.int).length ≤ sizeLine := by
    rw [List.length_map]
    exact hl
  cases hk : K.lookup a with
  | some o =>
    have e := kin a o hk
    rw [ha] at e
    injection e with e
    subst e
    refine main (fun _ => none) (fun _ => Or.inl rfl) (Or.inr ⟨_, vs.toArray, _, hk, rfl, rfl, rfl, ?_, ?_⟩) (fun b u z => nomatch z) (fun b u z => nomatch z)
    · rw [List.size_toArray, count]
      exact hl
    · rw [List.toList_toArray]
      exact rel
  | none =>
    have at_a : ∀ {b : Addr} {u : HO}, (if b = a then some (HO.frz { cls := .type "list", data := .seq vs.toArray } (.lst (ns.map V.int))) else none) = some u →
        b = a ∧ u = HO.frz { cls := .type "list", data := .seq vs.toArray } (.lst (ns.map V.int)) := by
      intro b u z
      split at z
      · rename_i hb
        injection z with z
        exact ⟨hb, z.symm⟩
      · cases z
    refine main (fun b => if b = a then some (.frz { cls := .type "list", data := .seq vs.toArray } (.lst (ns.map V.int))) else none) ?_ (Or.inl (Or.inr ⟨_, if_pos rfl⟩)) ?_ (fun b u z => ⟨(at_a z).1, hk⟩)
    · intro b
      by_cases hb : b = a
      · exact Or.inr ⟨_, _, if_pos hb⟩
      · exact Or.inl (if_neg hb)
    · intro b u z
      obtain ⟨rfl, rfl⟩ := at_a z
      exact ⟨ha, size, vs, _, rel, ha⟩

theorem walk_ofG {l : PySem.W.OpenLaw} {n k : Nat} {q : Program} {loose : List Str} {XP : (Str → Option Value) → Heap → Prop} {YP : World → Heap → Prop} {d : DefRec} {K : Params → PySem.W.Frag} {CX : World → CXT} {sp : World → Sp} {x : Str}
    (hn : l.most = some n) (hn2 : n ≤ sizeLine) (hdf : d.params.defaults = []) (room : Room k callerA)
    (hY : ∀ (w : World) (h : Heap), YP w h → (K w.params).In h)
    (F : ∀ (w : World) (mg : Str → Option Value) (fa : Addr) (h : Heap), (K w.params).In h → h.Ns mainGlobals mg → mg d.name = some (.ref fa) →
      ∃ fd : FuncData, (∀ (s : Shared) (u : Value), BindsTo s fd ⟨[u], []⟩ [(x, u)]) ∧
        ∀ base : Heap, (K w.params).In base → base.Ns mainGlobals mg → FnG l.prog w (K w.params) mg base (CX w) k fa fd [x] (sp w))
    (hsp : ∀ (w : World) (G : Hp) (a : Addr) (ns : List Int), ns.length ≤ n → Only G → SqL (K w.params) G a (ns.map V.int) → sp w [.ref a] G (fun v _ => v = .bl true) fun _ _ _ => False)
    (hCX : ∀ (w : World) (G : Hp) (s : Shared) (e : Value) (s' : Shared), CX w [] G s (fun _ _ _ => False) e s' → False) :
    PySem.W.WalkO q loose XP YP l.row.toRowW d [] (fun f vs => PySem.call f vs) := by
  refine Att.attach_call hn hdf ?_
  intro w s0 s1 mg mb fa o pm cd doc a vs ns Gr Y ho hd hcd hmg hobj hints hlen hgen
  obtain ⟨fd, hb, hF⟩ := F w mg fa _ (hY w _ Y) Gr.T.g hmg
  exact law_callG (hY w _ Y) Gr.T.g Gr.T.b Gr.T.builtins Gr.T.nolimit hgen hobj hints (Nat.le_trans hlen hn2) room hF hb (fun G only seq => hsp w G a ns hlen only seq) fun G e s' => hCX w G s1 e s'
end Qh
set_option Elab.async false
set_option linter.all false
set_option maxRecDepth 100000
set_option maxHeartbeats 4000000
/-! An error that is caught and then kept under a name of the def: the object itself is tracked. -/
namespace Qh
open PySem PySem.Spec PyProof.Rows L2

/-- at a: an error object of the class cls, its own dict at d -/
def exk (cls : Value) (d : Option Addr) (a : Addr) : HO := .ext fun h => ∃ (oe : Obj) (vs : Array Value), h.get? a = some oe ∧ oe.cls = cls ∧ oe.dict = d ∧ oe.data = .fields vs

theorem exk_ok {P : Program} {w : World} {G : Hp} {h : Heap} {a : Addr} {oe : Obj} {vs : Array Value} (e : h.get? a = some oe) (d : oe.data = .fields vs) : ObjOk P w G h a (exk oe.cls oe.dict a) :=
  ⟨⟨oe, vs, e, rfl, rfl, d⟩, ⟨oe, e⟩, fun h1 h2 ⟨o, v, e1, r⟩ k => ⟨o, v, k o e1, r⟩⟩

section
variable {X : Cx} {pins : List (Addr × Obj)} {σ : L2.St} {G : Hp} {s : Shared}
theorem Inv.kept_err {a : Addr} {oe : Obj} {vs : Array Value} (I : Inv X pins σ G s) (hg : s.heap.get? a = some oe) (hd : oe.data = .fields vs) (na : G a = none) (nL : a ≠ X.env.locals)
    (n0 : X.s_0.heap.get? a = none) (np : ∀ p ∈ X.pn ++ pins, p.1 ≠ a) : Inv X pins σ (upd G a (exk oe.cls oe.dict a)) s := by
  have other : ∀ {b : Addr} {o : HO}, G b = some o → upd G a (exk oe.cls oe.dict a) b = some o := fun {b o} e => by
    rw [upd_ne (ne_of_none e na)]
    exact e
  have old : ∀ {b : Addr} {o : Obj}, X.s_0.heap.get? b = some o → b ≠ a := fun {b o} e z => by
    rw [z, n0] at e
    cases e
  refine ⟨I.ok, I.os, I.bare, ⟨I.base.keep, I.base.slot, fun b o e n x => ?_, I.base.there, fun b xs e => other (I.base.tups b xs e), fun b o u e => other (I.base.frzs b o u e), fun b ps e => ?_⟩, I.loc, I.cell, ?_, fun x c e => ?_, fun p hp => ?_,
    HOk.laidN I.hok (fun _ _ z => z) na (exk_ok hg hd), I.len⟩
  · rw [upd_ne (old e)]
    exact I.base.free b o e n x
  · obtain ⟨more, q⟩ := I.base.tbls b ps e
    exact ⟨more, other q⟩
  · rw [upd_ne nL.symm]
    exact I.free
  · have ne : c ≠ a := fun z => by
      obtain ⟨v, o, e1, e2⟩ := I.cell x c e
      rw [z, hg] at e1
      injection e1 with e1
      rw [← e1, hd] at e2
      cases e2
    rw [upd_ne ne]
    exact I.freeC x c e
  · obtain ⟨h1, h2, h3⟩ := I.pin p hp
    refine ⟨h1, ?_, h3⟩
    rw [upd_ne (np p hp)]
    exact h2
end

/-- what the clause 'except x as n: c = n' wishes of an error of the body: n has slot i, c slot j -/
def wHeld (K : PySem.W.Frag) (c : Value) (i j : Nat) (Wout : WX) (D : Ends) : WX := fun cls d σ G =>
  ∃ b, PySem.W.exmOne K cls c = some b ∧ (b = true → ∀ a, G a = none → D.nx (((σ.set i (some (.ref a))).set j (some (.ref a))).set i none) (upd G a (exk cls d a))) ∧ (b = false → Wout cls d σ G)

section
variable {X : Cx} {x n y : Str} {c : Value} {i j : Nat} {body : List Stmt} {np p1 p2 p3 pos pos' : Pos} {tb : WX → TS} {Wout : WX}
theorem ps_try_held (hs : X.stack = X.env :: X.outer) (hf : X.env.frame = some X.env.locals) (hex : X.ex = []) (hN : X.N.Nodup) (hi : X.N[i]? = some n) (hln : X.env.kindOf n = some .local)
    (hj : X.N[j]? = some y) (hly : X.env.scope.names.lookup y = some .local) (hdb : (n == ("__debug__" : Str)) = false) (hdc : (n == ("__classdict__" : Str)) = false)
    (hsw : swapsWith (.Name n p2) (some (.Name y p1)) p3.line X.env = pure false)
    (hc : Names X x c) (tk : Takes X Wout)
    (hb : ∀ (W : WX) (pn : List (Addr × Obj)) (xe : Value → Shared → Prop), Takes (X.tr pn xe) W → PassesOwn (model X.prog X.w) X.A X.env xe → PSs (X.tr pn xe) body (tb W)) :
    PS X (.Try body [.ExceptHandler (some (.Name x np)) (some n) [.Assign [.Name y p1] (.Name n p2) p3] pos'] [] [] pos) (fun D σ G => tb (wHeld X.K c i j Wout D) D σ G) := by
  constructor
  intro pins s σ G D I h
  have ok := I.ok
  have frames : X.A.frames = some (X.env :: X.outer) := by rw [ok.frames, hs]
  have hloc : Loc X.env.scope n := Or.inl hln
  have hlen : i < σ.length := by
    rw [I.len]
    exact (List.getElem?_eq_some_iff.mp hi).1
  refine wpAny_Try_except ?_
  refine wpAny_mono ((hb (wHeld X.K c i j Wout D) (X.pn ++ pins) (fun e s1 => wpAny (model X.prog X.w) X.A (noteFrame e X.env) (fun _ s2 => wpAny (model X.prog X.w) X.A (setFlight e none) (fun _ s3 =>
    wpAny (model X.prog X.w) X.A (handleBy e X.env [.ExceptHandler (some (.Name x np)) (some n) [.Assign [.Name y p1] (.Name n p2) p3] pos']) (SP X pins D) X.xe s3) X.xe s2) X.xe s1) ?_ PassesOwn.looking).run [] s σ G D (I.toTry _) h) ?_ (fun _ _ z => z)
  · rintro u s' ⟨a, B, sI, pins', σ', G', cls, d, rfl, J', nb, up, sky, na, os, ag, b, hb1, hyes, hno⟩
    have J : Inv X pins σ' G' sI := J'.ofTry ok
    have sky' : Sky B (X.env :: X.outer) a (Zc cls d) X.env.locals s'.heap := hs ▸ sky
    have Bno : B.get? a = none := by
      rcases sky with z | z | z
      · exact z.2.1
      · exact z.2.1
      · exact z.2.1
    show wpAny (model X.prog X.w) X.A (noteFrame (.ref a) X.env) _ _ _
    refine Sky.land Zc.steady frames hf sky' fun h3 fl3 up3 => ?_
    have J3 : Inv X pins σ' G' { s' with heap := h3 } := J.landed nb fl3.1 (up.trans up3) os ag
    obtain ⟨oe3, vs3, he3, hz3, hd3⟩ := fl3.there
    have outside : a ∉ frs (X.env :: X.outer) := fun hm => by
      obtain ⟨_, o', e', z⟩ := fl3.2.2.1.mem hm
      rw [he3] at e'
      injection e' with e'
      subst e'
      exact z _ hd3
    have nL : a ≠ X.env.locals := fun z => outside (List.mem_filterMap.mpr ⟨X.env, List.mem_cons_self, by rw [hf, z]⟩)
    have nF : a ∉ X.fs := fun hm => by
      obtain ⟨e, he, q⟩ := List.mem_filterMap.mp hm
      exact outside (List.mem_filterMap.mpr ⟨e, List.mem_cons_of_mem _ he, q⟩)
    have fresh : ∀ {b : Addr} {o : Obj}, sI.heap.get? b = some o → b ∉ frs X.stack → b ≠ a := fun {b o} e hm z => by
      have q := nb b o e hm
      rw [z, Bno] at q
      cases q
    have n0 : X.s_0.heap.get? a = none := by
      cases q : X.s_0.heap.get? a with
      | none => rfl
      | some o =>
        obtain ⟨o', e'⟩ := J.base.there a o q (by rw [hex]; simp)
        exact absurd rfl (fresh e' (hs ▸ outside))
    have npin : ∀ p ∈ X.pn ++ pins, p.1 ≠ a := fun p hp => by
      obtain ⟨q1, _, q3, q4, _⟩ := J.pin p hp
      refine fresh q1 fun hm => ?_
      rw [hs] at hm
      obtain ⟨e, he, q⟩ := List.mem_filterMap.mp hm
      rcases List.mem_cons.mp he with rfl | he
      · rw [hf] at q
        injection q with q
        exact q3 q.symm
      · exact q4 (List.mem_filterMap.mpr ⟨e, he, q⟩)
    have S3 := J3.suite he3 hd3 na nL nF
    refine wpAny_handleBy_cons (codeAny_handlers_test ?_) (by intro q; cases q)
    have LT : PySem.W.Looks (model X.prog X.w) h3 (typeOf (.ref a)) cls := fun A Q E s k q => wpAny_typeOf_ref (k _ _ he3) (by rw [hz3.1]; exact q)
    have LM := PySem.W.exm_one (M := model X.prog X.w) (J3.kIn) LT hb1
    have test : ∀ {Q : Value → Shared → Prop} {E : Value → Shared → Prop}, Q c { s' with heap := h3 } → wpAny (model X.prog X.w) (X.A.mark (some (.ref a))) (eval (.Name x np) X.env) Q E { s' with heap := h3 } := fun {Q E} q => by
      obtain ⟨hg, hdbg, hm | ⟨hm, hv, hnn⟩⟩ := hc
      · exact ld_glob (X := X.suite a ((a, oe3) :: (X.pn ++ pins))) S3 hg hm q hdbg
      · exact ld_blt (X := X.suite a ((a, oe3) :: (X.pn ++ pins))) S3 hg hm hv q hnn hdbg
    refine test (LM.here ?_)
    cases b with
    | true =>
      refine codeAny_handlers_suite_as ?_
      refine HandSPX.lands_againZ fl3 fun h4 fl4 up4 => ?_
      have J4 : Inv X pins σ' G' { s' with heap := h4 } := J.landed nb fl4.1 ((up.trans up3).trans up4) os ag
      obtain ⟨oe4, vs4, he4, hz4, hd4⟩ := fl4.there
      have S4 := J4.suite he4 hd4 na nL nF
      have hlen' : i < σ'.length := by
        rw [J.len]
        exact (List.getElem?_eq_some_iff.mp hi).1
      refine store_ok (X := X.suite a ((a, oe4) :: (X.pn ++ pins))) (v := .ref a) S4 hN hi hloc rfl (fun s5 S5 => ?_) (.inr hln)
      have asg : PSs (X.suite a ((a, oe4) :: (X.pn ++ pins))) [.Assign [.Name y p1] (.Name n p2) p3] (tAsg (tVar i) (gName j)) :=
        pss_one (ps_set hN hj (Or.inl hly) (pe_var hi (Or.inl hln) hdb hdc) hsw (.inr hly))
      refine wpAny_mono (asg.run [] s5 _ G' { nx := fun σ6 G6 => σ6 = (σ'.set i (some (.ref a))).set j (some (.ref a)) ∧ G6 = G', rt := fun _ _ => False } S5 ⟨.ref a, List.getElem?_set_self hlen', rfl, rfl⟩) ?_ (fun _ _ z => z.elim)
      intro f s6 hsp
      cases f with
      | next =>
        obtain ⟨σ6, G6, S6, rfl, rfl⟩ := hsp
        have pinned := S6.pin (a, oe4) (List.mem_append_left _ List.mem_cons_self)
        have J6 := Qh.Inv.kept_err (S6.unsuite ok) pinned.1 hd4 na nL n0 npin
        rw [hz4.1, hz4.2] at J6
        exact gone_ok J6 hN hi hln fun s7 J7 => ⟨_, _, J7, hyes rfl a na⟩
      | brk => exact (hsp.elim fun _ z => z.elim fun _ z => z.2).elim
      | cont => exact (hsp.elim fun _ z => z.elim fun _ z => z.2).elim
      | ret u => exact (hsp.elim fun _ z => z.elim fun _ z => z.elim fun _ z => z.2.2).elim
    | false =>
      show wpAny _ X.A (handleBy (.ref a) X.env []) _ _ _
      refine wpAny_handleBy_nil ?_
      obtain ⟨k1, k2, k3, oe, vs, T, oT, ts', he, hz, hd, h1, hr⟩ := id fl3
      unfold PySem.passOn
      refine wpAny_bind (wpAny_field he hd h1 ?_)
      rw [if_neg (show ¬ ((Value.ref T == Value.none) = true) from by simp)]
      have fin : wpAny (model X.prog X.w) X.A (setFlight (.ref a) X.env.frame) (fun _ s4 => wpAny (model X.prog X.w) X.A (throw (.ref a) : Sem Flow) (SP X pins D) X.xe s4) X.xe { s' with heap := h3 } := by
        rw [hf]
        refine HandSPX.setFlight_upZ fl3 fun h4 hh4 up4 => wpAny_throw (tk _ _ ?_)
        exact ⟨a, B, sI, pins, σ', G', cls, d, rfl, J, nb, (up.trans up3).trans up4, .inr (.inr (by rw [hs]; exact hh4)), na, os, ag, hno rfl⟩
      first
        | exact wpAny_bind (wpAny_pure (wpAny_bind fin))
        | exact wpAny_bind fin
  · intro f s1 hsp
    cases f with
    | next =>
      obtain ⟨σ1, G1, J1, q⟩ := hsp
      exact wpAny_execs_nil ⟨σ1, G1, J1.ofTry ok, q⟩
    | brk =>
      obtain ⟨σ1, G1, J1, q⟩ := hsp
      exact ⟨σ1, G1, J1.ofTry ok, q⟩
    | cont =>
      obtain ⟨σ1, G1, J1, q⟩ := hsp
      exact ⟨σ1, G1, J1.ofTry ok, q⟩
    | ret u =>
      obtain ⟨v, σ1, G1, J1, r, q⟩ := hsp
      exact ⟨v, σ1, G1, J1.ofTry ok, r, q⟩
end
/-! ### the kept error: its fields, isinstance -/
/-- e.f -/
def tErrF (K : PySem.W.Frag) (f : Str) (te : TE) : TE := fun σ G Q => te σ G fun x G1 => ∃ (a C d : Addr) (fs : List (Str × V)) (v : V), x = .ref a ∧ G1 a = some (exk (.ref C) (some d) a) ∧ G1 d = some (.xd fs) ∧
  XfC K C ∧ PySem.W.findIn K (.ref C) f = some none ∧ fs.lookup f = some v ∧ Q v G1
theorem pe_errF {X : Cx} {e : Expr} {te : TE} {pos : Pos} {f : Str} (he : PE X e te) (hb : attributeBase e f X.env (eval e X.env) = eval e X.env := by rfl) : PE X (.Attribute e f pos) (tErrF X.K f te) := by
  constructor
  intro pins s σ G Q I h
  refine attr_of hb (thn (he.run pins s σ G _ I h) ?_)
  rintro u s1 ⟨x, G1, I1, rx, a, C, dd, fs, v, rfl, ek, ed, T, hno, l, q⟩
  obtain rfl : u = Value.ref a := rx
  obtain ⟨⟨oe, vs, ha, hcls, hdict, hdata⟩, _⟩ := I1.hok a _ ek
  obtain ⟨mA, hns, hr⟩ := I1.hok dd _ ed
  obtain ⟨od, ho, hl⟩ := lookIn_ns hns
  obtain ⟨u, hu, ru⟩ := RelO.some_of (v := v) (o := mA f) (by rw [← l]; exact hr f)
  have J : PySem.W.InstAt s1.heap a oe C (some od) := ⟨ha, hcls, by unfold PySem.W.notCls; rw [hdata] <;> rfl, by rw [hdict]; exact ho⟩
  exact HandSPX.exc_get I1.kIn J T.ga T.gg T.exC (PySem.W.findObj_own T.hdC hno rfl (by rw [hl, hu])) (handed_of ru) ⟨v, G1, I1.tok _, ru, q⟩

/-- isinstance(e, c), e a kept error of the class at D -/
def rErrIs (K : PySem.W.Frag) : List V → Hp → VK → Prop := fun xs G Q => ∃ (a D d : Addr) (fs : List (Str × V)) (c : V) (cv : Value) (b : Bool), xs = [.ref a, c] ∧ G a = some (exk (.ref D) (some d) a) ∧ G d = some (.xd fs) ∧ ExcC K D ∧ (∀ u, RelV c u → u = cv) ∧ PySem.W.kitOne K (.ref D) cv = some b ∧ Q (.bl b) G
theorem call_errIs {X : Cx} : CallR X (.builtin "isinstance") (rErrIs X.K) := by
  rintro pins s σ G xs us Q I r ⟨a, D, d, fs, c, cv, b, rfl, ek, ed, C, hcv, e, q⟩
  obtain ⟨u1, u2, rfl, r1, r2⟩ := vals2 r
  obtain rfl : u1 = Value.ref a := r1
  obtain rfl := hcv _ r2
  obtain ⟨⟨oe, vs, ha, hcls, hdict, hdata⟩, _⟩ := I.hok a _ ek
  obtain ⟨mA, hns, hr⟩ := I.hok d _ ed
  obtain ⟨od, ho, hl⟩ := lookIn_ns hns
  have J : PySem.W.InstAt s.heap a oe D (some od) := ⟨ha, hcls, by unfold PySem.W.notCls; rw [hdata] <;> rfl, by rw [hdict]; exact ho⟩
  have hcl : (PySem.W.clsIn X.K D).isSome = true := by
    obtain ⟨cd, hc, _⟩ := PySem.W.any_some C.hd
    rw [hc]
    rfl
  exact PySem.W.kia_one (PySem.W.kitx_exc hcl C.hg C.hk C.hs C.ha C.hn C.ht C.hm) I.kIn J e (fun z => nomatch z) fun tk => ⟨.bl b, G, I.kept (t' := tk) fun _ _ z => z, rfl, q⟩
end Qh
set_option Elab.async false
set_option linter.all false
set_option maxRecDepth 100000
set_option maxHeartbeats 4000000
/-! Own defs by name: what stands behind the top, how they are called. -/
namespace Qh
open PySem PySem.Spec PyProof.Rows L2

/-- the def x of the module keeps sp -/
structure Ok (P : Program) (w : World) (K : PySem.W.Frag) (mg : Str → Option Value) (base : Heap) (x : Str) (pa : Arguments) (ps : List Str) (k : Nat) (sp : Sp) : Prop where
  ex : ∃ (f : Addr) (body : List Stmt) (scope : Scope) (kV doc pm : Value) (an : Option Addr) (cdv ct : Value), mg x = some (.ref f) ∧ PySem.W.keepIn K (.ref f) = true ∧
    (∀ us : List Value, us.length = ps.length → bindArgs (PySem.W.fnOf x x pa body scope .none kV doc pm an cdv ct) ⟨us, []⟩ = pure (ps.zip us)) ∧
    FnOk P w K mg base (L2.CX P w) k f (PySem.W.fnOf x x pa body scope .none kV doc pm an cdv ct) ps sp
/-- .. where no repr is under way -/
structure OkG (P : Program) (w : World) (K : PySem.W.Frag) (mg : Str → Option Value) (base : Heap) (x : Str) (pa : Arguments) (ps : List Str) (k : Nat) (sp : Sp) : Prop where
  ex : ∃ (f : Addr) (body : List Stmt) (scope : Scope) (kV doc pm : Value) (an : Option Addr) (cdv ct : Value), mg x = some (.ref f) ∧ PySem.W.keepIn K (.ref f) = true ∧
    (∀ us : List Value, us.length = ps.length → bindArgs (PySem.W.fnOf x x pa body scope .none kV doc pm an cdv ct) ⟨us, []⟩ = pure (ps.zip us)) ∧
    FnG P w K mg base (L2.CX P w) k f (PySem.W.fnOf x x pa body scope .none kV doc pm an cdv ct) ps sp

section
variable {X : Cx} {W : WX} {k : Nat} {ps : List Str} {sp : Sp} {pa : Arguments} {x : Str} {p pos : Pos} {e : Expr} {es : List Expr} {t : TA}
theorem bindsOf {K : PySem.W.Frag} {x : Str} {pa : Arguments} {body : List Stmt} {scope : Scope} {kV doc pm : Value} {an : Option Addr} {cdv ct : Value} {ps : List Str}
    (h : ∀ us : List Value, us.length = ps.length → bindArgs (PySem.W.fnOf x x pa body scope .none kV doc pm an cdv ct) ⟨us, []⟩ = pure (ps.zip us)) : Binds K (PySem.W.fnOf x x pa body scope .none kV doc pm an cdv ct) ps [] := .all h
/-- f(e, ..), f a def of the module -/
theorem pe_own (F : Ok X.prog X.w X.K X.mg X.base x pa ps k sp) (hr : Room k X.A) (tk : Takes X W) (ha : PA X (e :: es) t) (hg : Gl X x := by rfl) (hdb : (x == ("__debug__" : Str)) = false := by decide)
    (he : starEach (e :: es) X.env = (false, eval e X.env) :: starEach es X.env := by rfl) (hpl : (backTo pos (starEach es X.env)).any (·.1) = false := by rfl) :
    PE X (.Call (.Name x p) (e :: es) [] pos) (tCallS sp (WE W) t) := by
  obtain ⟨f, body, scope, kV, doc, pm, an, cdv, ct, hm, hk, hb, F⟩ := F.ex
  exact pe_callS F hr hg hm hk (bindsOf hb) (fun σ => passAt tk σ) ha hdb he hpl
/-! ### keywords alone, where errors are wished for at the caller's slots -/
theorem run_ks {f : Addr} {fd : FuncData} {E : L2.St → XK} {ks : List Str} {g : List Value → List Value} {gV : List V → List V} {pins : List (Addr × Obj)} {σ : L2.St} {G : Hp} {s : Shared} {Q : VK} {ws : List Value} {zs : List V}
    (F : FnOk X.prog X.w X.K X.mg X.base (L2.CX X.prog X.w) k f fd ps sp) (hr : Room k X.A) (hb : ∀ ws : List Value, ws.length = ps.length → bindArgs fd ⟨[], ks.zip ws⟩ = pure (ps.zip (g ws))) (hrel : ∀ {zs : List V} {ws : List Value}, Vals zs ws → Vals (gV zs) (g ws))
    (hlen : ∀ ws : List Value, (g ws).length = ws.length) (hx : PassesAt (L2.CX X.prog X.w) X σ (E σ)) (I : Inv X pins σ G s) (rz : Vals zs ws) (h : sp (gV zs) G Q (E σ)) :
    wpAny (model X.prog X.w) X.A (call (.ref f) [] (ks.zip ws)) (EP X pins σ Q) X.xe s := by
  have rr := hrel rz
  have count : ws.length = ps.length := by
    rw [← hlen ws, ← rr.length]
    exact F.len _ _ _ _ h
  refine wpAny_call (codeAny_mono (F.run X.A X.stack s G ⟨[], ks.zip ws⟩ (g ws) (gV zs) Q (E σ) hr I.env0 (BindsTo.of_eq (hb ws count)) rr h) ?_)
  rintro (e | fl) s' hq
  · exact hx pins G s e s' I hq
  · cases fl with
    | ret u => exact I.after hq
    | next => exact hq.elim
    | brk => exact hq.elim
    | cont => exact hq.elim
def tCallKS (sp : Sp) (gV : List V → List V) (E : L2.St → XK) (tk : TA) : TE := fun σ G Q => tk σ G fun zs G2 => sp (gV zs) G2 Q (E σ)
/-- f(a = e, ..), every parameter by its name; g puts the values in the parameters' order -/
theorem pe_ownK {kws : List Keyword} {ks : List Str} (g : {α : Type} → List α → List α) (F : Ok X.prog X.w X.K X.mg X.base x pa ps k sp) (hr : Room k X.A) (tk : Takes X W) (hkw : PK X kws t)
    (hbk : ∀ (body : List Stmt) (scope : Scope) (kV doc pm : Value) (an : Option Addr) (cdv ct : Value) (ws : List Value), ws.length = ps.length → bindArgs (PySem.W.fnOf x x pa body scope .none kV doc pm an cdv ct) ⟨[], ks.zip ws⟩ = pure (ps.zip (g ws)))
    (hrel : ∀ {zs : List V} {ws : List Value}, Vals zs ws → Vals (g zs) (g ws)) (hlen : ∀ ws : List Value, (g ws).length = ws.length)
    (hg : Gl X x := by rfl) (hdb : (x == ("__debug__" : Str)) = false := by decide)
    (hall : (backToKw pos (keywordEach kws X.env)).all (·.1.isSome) = true := by rfl) (hks : (backToKw pos (keywordEach kws X.env)).filterMap (·.1) = ks := by rfl)
    (hpl : ((backTo pos (starEach [] X.env)).any (·.1) || (backToKw pos (keywordEach kws X.env)).any (·.1.isNone)) = false := by rfl) :
    PE X (.Call (.Name x p) [] kws pos) (tCallKS sp (fun zs => g zs) (WE W) t) := by
  obtain ⟨f, body, scope, kV, doc, pm, an, cdv, ct, hm, hk, hb, F⟩ := F.ex
  constructor
  intro pins s σ G Q I h
  refine wpAny_Call_Name_kw (ld_glob I hg hm ?_ hdb)
  refine PySem.W.callWith_KW0 (h₀ := X.base) I.ok.mod.kin hk hall ?_ hpl
  refine thn (hkw.run pos pins s σ G _ I h) ?_
  rintro ws s2 ⟨zs, G2, I2, rz, q2⟩
  refine ⟨I2.kIn, ?_⟩
  rw [hks]
  exact run_ks (E := WE W) F hr (hbk body scope kV doc pm an cdv ct) hrel hlen (passAt tk σ) I2 rz q2
/-- .. in their order -/
theorem pe_ownK0 {kws : List Keyword} (F : Ok X.prog X.w X.K X.mg X.base x pa ps k sp) (hr : Room k X.A) (tk : Takes X W) (hkw : PK X kws t)
    (hbk : ∀ (body : List Stmt) (scope : Scope) (kV doc pm : Value) (an : Option Addr) (cdv ct : Value) (ws : List Value), ws.length = ps.length → bindArgs (PySem.W.fnOf x x pa body scope .none kV doc pm an cdv ct) ⟨[], ps.zip ws⟩ = pure (ps.zip ws))
    (hg : Gl X x := by rfl) (hdb : (x == ("__debug__" : Str)) = false := by decide)
    (hall : (backToKw pos (keywordEach kws X.env)).all (·.1.isSome) = true := by rfl) (hks : (backToKw pos (keywordEach kws X.env)).filterMap (·.1) = ps := by rfl)
    (hpl : ((backTo pos (starEach [] X.env)).any (·.1) || (backToKw pos (keywordEach kws X.env)).any (·.1.isNone)) = false := by rfl) :
    PE X (.Call (.Name x p) [] kws pos) (tCallKS sp (fun zs => zs) (WE W) t) :=
  pe_ownK (fun l => l) F hr tk hkw hbk (fun r => r) (fun _ => rfl) hg hdb hall hks hpl
end

/-! ### a def as the top has left it -/
structure DefIn (K : PySem.W.Frag) (mg : Str → Option Value) (x : Str) (st : Stmt) : Prop where
  ex : ∃ (f : Addr) (fd : FuncData), Fun K x x st f fd ∧ mg x = some (.ref f)
section
variable {P : Program} {w : World} {K : PySem.W.Frag} {mg : Str → Option Value} {base : Heap} {x : Str} {st : Stmt} {N ps : List Str} {k : Nat} {sp : Sp}
/-- its promise, by its body -/
theorem DefIn.ok (D : DefIn K mg x st) (S : FnScope N ps (defScope st)) (len : ∀ vs G Q E, sp vs G Q E → vs.length = ps.length)
    (hbind : ∀ (kV doc pm : Value) (an : Option Addr) (cdv ct : Value) (us : List Value), us.length = ps.length → bindArgs (PySem.W.fnOf x x (defArgs st) (defBody st) (defScope st) .none kV doc pm an cdv ct) ⟨us, []⟩ = pure (ps.zip us))
    (hbody : ∀ (f : Addr) (cdv : Value) (A : Around) (out : List Env) (t : Shared) (G : Hp) (vs : List V) (Q : VK) (E : XK), Room k (A.deeper (envOfC x (defScope st) t.heap.objs.size f cdv)) → sp vs G Q E →
      ∃ rd, PSs (cxOf (L2.CX P w) P w K mg base N x (defScope st) f cdv A out t G E) (defBody st) rd ∧ rd { nx := fun _ G' => Q .non G', rt := Q } (start N vs) G) :
    Ok P w K mg base x (defArgs st) ps (k + 1) sp := by
  obtain ⟨f, fd, F, hm⟩ := D.ex
  have G : FnOk P w K mg base (L2.CX P w) (k + 1) f fd ps sp := F.okX S len fun cdv A out t G vs Q E room want => hbody f cdv A out t G vs Q E room want
  obtain ⟨oc, od, kV, doc, pm, an, cdv, ct, osl, rfl, lk, hcd⟩ := F.ex
  exact ⟨⟨f, _, _, kV, doc, pm, an, cdv, ct, hm, F.kp, fun us hl => hbind kV doc pm an cdv ct us hl, G⟩⟩
theorem DefIn.okG (D : DefIn K mg x st) (S : FnScope N ps (defScope st)) (len : ∀ vs G Q E, sp vs G Q E → vs.length = ps.length)
    (hbind : ∀ (kV doc pm : Value) (an : Option Addr) (cdv ct : Value) (us : List Value), us.length = ps.length → bindArgs (PySem.W.fnOf x x (defArgs st) (defBody st) (defScope st) .none kV doc pm an cdv ct) ⟨us, []⟩ = pure (ps.zip us))
    (hbody : ∀ (f : Addr) (cdv : Value) (A : Around) (out : List Env) (t : Shared) (G : Hp) (vs : List V) (Q : VK) (E : XK), A.guards = some [] → Room k (A.deeper (envOfC x (defScope st) t.heap.objs.size f cdv)) → sp vs G Q E →
      ∃ rd, PSs (cxOf (L2.CX P w) P w K mg base N x (defScope st) f cdv A out t G E) (defBody st) rd ∧ rd { nx := fun _ G' => Q .non G', rt := Q } (start N vs) G) :
    OkG P w K mg base x (defArgs st) ps (k + 1) sp := by
  obtain ⟨f, fd, F, hm⟩ := D.ex
  have G : FnG P w K mg base (L2.CX P w) (k + 1) f fd ps sp := Qh.okG F S len fun cdv A out t G vs Q E gu room want => hbody f cdv A out t G vs Q E gu room want
  obtain ⟨oc, od, kV, doc, pm, an, cdv, ct, osl, rfl, lk, hcd⟩ := F.ex
  exact ⟨⟨f, _, _, kV, doc, pm, an, cdv, ct, hm, F.kp, fun us hl => hbind kV doc pm an cdv ct us hl, G⟩⟩
end
end Qh
set_option Elab.async false
set_option linter.all false
set_option maxRecDepth 100000
set_option maxHeartbeats 4000000
/-! What every law of this table brings: built-in names, repr of data, the pen. -/
namespace Qh
open PySem PySem.Spec PyProof.Rows L2

/-- the built-in names that the module leaves alone -/
structure Blt (mg : Str → Option Value) : Prop where
  n_len : mg "len" = none
  n_int : mg "int" = none
  n_abs : mg "abs" = none
  n_list : mg "list" = none
  n_tuple : mg "tuple" = none
  n_range : mg "range" = none
  n_repr : mg "repr" = none
  n_all : mg "all" = none
  n_any : mg "any" = none
  n_isinstance : mg "isinstance" = none
  n_str : mg "str" = none
  n_bool : mg "bool" = none
  n_dict : mg "dict" = none
  n_set : mg "set" = none
  n_sorted : mg "sorted" = none
  n_enumerate : mg "enumerate" = none
  n_zip : mg "zip" = none
  n_max : mg "max" = none
  n_sum : mg "sum" = none
  n_min : mg "min" = none
  n_reversed : mg "reversed" = none

theorem bt_len : bootBuiltins "len" = some (.builtin "len") := by decide +kernel
theorem bt_abs : bootBuiltins "abs" = some (.builtin "abs") := by decide +kernel
theorem bt_int : bootBuiltins "int" = some (.type "int") := by decide +kernel
theorem bt_list : bootBuiltins "list" = some (.type "list") := by decide +kernel
theorem bt_tuple : bootBuiltins "tuple" = some (.type "tuple") := by decide +kernel
theorem bt_str : bootBuiltins "str" = some (.type "str") := by decide +kernel
theorem bt_repr : bootBuiltins "repr" = some (.builtin "repr") := by decide +kernel
theorem bt_isinstance : bootBuiltins "isinstance" = some (.builtin "isinstance") := by decide +kernel
theorem bt_min : bootBuiltins "min" = some (.builtin "min") := by decide +kernel
theorem bt_max : bootBuiltins "max" = some (.builtin "max") := by decide +kernel

/-! ### repr of data, where no repr is under way -/
section
variable {X : Cx}
def rRepr (K : PySem.W.Frag) : List V → Hp → VK → Prop := fun xs G Q => ∃ (a : Addr) (d : PyData), xs = [.ref a] ∧ Dp K G (.ref a) d ∧ d.showable = true ∧ d.hasDict = false ∧ d.depth ≤ 40 ∧ d.shown.length ≤ sizeLine ∧ Q (.str d.shown) G
theorem call_repr (gu : X.A.guards = some []) (hu : X.A.units + 64 < cLine) : CallR X (.builtin "repr") (rRepr X.K) := by
  rintro pins s σ G xs us Q I r ⟨a, d, rfl, hd, hs, hn, hk, hz, q⟩
  obtain ⟨u, rfl, ru⟩ := vals1 r
  obtain rfl : u = Value.ref a := ru
  obtain ⟨as, rd⟩ := Dp.reads I d _ _ hd rfl
  exact repr_of_reads' rd hs (PyData.noDict_hsm hn) gu (by omega) (fun _ _ z => z) (fun h' u tk k => ⟨.str d.shown, G, I.kept k, ⟨u, rfl⟩, q⟩) hz
end

/-! ### the pen: the script's cells, how many are read, what is left of a great cell -/
def Pen (G : Hp) (p l : Addr) (c : Int) : Prop :=
  ∃ (n g : Int) (ns : List Int), G p = some (.lst [.ref l, .int n, .int g]) ∧ G l = some (.lst (ns.map V.int)) ∧ l ≠ p ∧ 0 ≤ n ∧ n ≤ c ∧ 0 ≤ g
/-- all that was tracked but p is as it was -/
def Kp (p : Addr) (G G' : Hp) : Prop := ∀ b o, b ≠ p → G b = some o → G' b = some o
theorem Kp.refl (p : Addr) (G : Hp) : Kp p G G := fun _ _ _ h => h
theorem Kp.trans {p : Addr} {G G1 G2 : Hp} (a : Kp p G G1) (b : Kp p G1 G2) : Kp p G G2 := fun x o n h => b x o n (a x o n h)
theorem Kp.new {p q : Addr} {G : Hp} {o : HO} (h : G q = none) : Kp p G (upd G q o) := fun b u _ e => by
  rw [upd_ne (ne_of_none e h)]
  exact e
theorem Kp.self {p : Addr} {G : Hp} {o : HO} : Kp p G (upd G p o) := fun b u n e => by
  rw [upd_ne n]
  exact e
theorem Kp.same {p : Addr} {G G' : Hp} (h : Same G G') : Kp p G G' := fun b o _ e => h b o e
theorem Same.new {q : Addr} {G : Hp} {o : HO} (h : G q = none) : Same G (upd G q o) := fun b u e => by
  rw [upd_ne (ne_of_none e h)]
  exact e
/-- an object that was not there before may change -/
theorem Kp.fresh {p q : Addr} {G G' : Hp} {o : HO} (k : Kp p G G') (h : G q = none) : Kp p G (upd G' q o) := fun b u n e => by
  rw [upd_ne (ne_of_none e h)]
  exact k b u n e
theorem Kp.free {p q : Addr} {G G' : Hp} (k : Kp p G G') (n : q ≠ p) (h : G' q = none) : G q = none := by
  cases e : G q with
  | none => rfl
  | some o =>
    rw [k q o n e] at h
    cases h
theorem Pen.mono {G : Hp} {p l : Addr} {c c' : Int} (P : Pen G p l c) (h : c ≤ c') : Pen G p l c' := by
  obtain ⟨n, g, ns, h1, h2, h3, h4, h5, h6⟩ := P
  exact ⟨n, g, ns, h1, h2, h3, h4, Int.le_trans h5 h, h6⟩
/-- an object that is neither the pen nor its cells may change -/
theorem Pen.upd {G : Hp} {p l q : Addr} {c : Int} {o : HO} (P : Pen G p l c) (hp : q ≠ p) (hl : q ≠ l) : Pen (upd G q o) p l c := by
  obtain ⟨n, g, ns, h1, h2, h3⟩ := P
  refine ⟨n, g, ns, ?_, ?_, h3⟩
  · rw [upd_ne hp.symm]
    exact h1
  · rw [upd_ne hl.symm]
    exact h2
theorem Pen.same {G G' : Hp} {p l : Addr} {c : Int} (P : Pen G p l c) (k : Same G G') : Pen G' p l c := by
  obtain ⟨n, g, ns, h1, h2, h3⟩ := P
  exact ⟨n, g, ns, k _ _ h1, k _ _ h2, h3⟩
theorem Pen.ne {G : Hp} {p l q : Addr} {c : Int} (P : Pen G p l c) (h : G q = none) : q ≠ p := fun e => by
  obtain ⟨n, g, ns, h1, _⟩ := P
  rw [e, h1] at h
  cases h
theorem Pen.nel {G : Hp} {p l q : Addr} {c : Int} (P : Pen G p l c) (h : G q = none) : q ≠ l := fun e => by
  obtain ⟨n, g, ns, _, h1, _⟩ := P
  rw [e, h1] at h
  cases h
theorem Pen.new {G : Hp} {p l q : Addr} {c : Int} {o : HO} (P : Pen G p l c) (h : G q = none) : Pen (L2.upd G q o) p l c := P.upd (P.ne h) (P.nel h)
/-- a number below m is drawn -/
def spDraw : Sp := fun vs G Q _ => ∃ (p l : Addr) (c m : Int), vs = [.ref p, .int m] ∧ Pen G p l c ∧ c ≤ 1000000 ∧ 0 < m ∧ m ≤ 1000000 ∧ ∀ (d : Int) (G' : Hp), 0 ≤ d → d < m → Kp p G G' → Pen G' p l (c + 1) → Q (.int d) G'
/-- one of some things is drawn -/
def spPick (K : PySem.W.Frag) : Sp := fun vs G Q _ => ∃ (p l a : Addr) (c : Int) (xs : List V), vs = [.ref p, .ref a] ∧ Pen G p l c ∧ c ≤ 1000000 ∧ a ≠ p ∧ SqL K G a xs ∧ 0 < xs.length ∧ xs.length ≤ 1000000 ∧
  ∀ (x : V) (G' : Hp), x ∈ xs → Kp p G G' → Pen G' p l (c + 1) → Q x G'
/-- the pen is made -/
def spPen (K : PySem.W.Frag) : Sp := fun vs G Q _ => ∃ (a : Addr) (ns : List Int), vs = [.ref a] ∧ SqL K G a (ns.map V.int) ∧ ∀ (p l : Addr) (G' : Hp), G p = none → Same G G' → Pen G' p l 0 → Q (.ref p) G'
theorem Kp.seq {K : PySem.W.Frag} {p a : Addr} {G G' : Hp} {xs : List V} (k : Kp p G G') (n : a ≠ p) (h : SqL K G a xs) : SqL K G' a xs := by
  rcases h with (h | ⟨o, h⟩) | h
  · exact .inl (.inl (k _ _ n h))
  · exact .inl (.inr ⟨o, k _ _ n h⟩)
  · exact .inr h

/-! ### data -/
theorem dp_ints {K : PySem.W.Frag} {G : Hp} : ∀ ns : List Int, DpAll K G (ns.map V.int) (ns.map PyData.int)
  | [] => .nil
  | a :: r => .cons (.int a) (dp_ints r)
theorem dp_strs {K : PySem.W.Frag} {G : Hp} : ∀ xs : List Str, DpAll K G (xs.map V.str) (xs.map PyData.str)
  | [] => .nil
  | a :: r => .cons (.str a) (dp_strs r)
theorem lay_ints : ∀ ns : List Int, PyData.canLayAll0 (ns.map PyData.int) = true ∧ PyData.depthAll (ns.map PyData.int) = 0
  | [] => ⟨rfl, rfl⟩
  | a :: r => ⟨by show (true && PyData.canLayAll0 (r.map PyData.int)) = true; rw [(lay_ints r).1]; rfl, by show max 0 (PyData.depthAll (r.map PyData.int)) = 0; rw [(lay_ints r).2]; rfl⟩
/-- signs that are signs -/
def txt (x : Str) : Bool := x.cps.all (· < 0x110000)
theorem lay_strs : ∀ xs : List Str, (∀ x ∈ xs, txt x = true) → PyData.canLayAll0 (xs.map PyData.str) = true ∧ PyData.depthAll (xs.map PyData.str) = 0
  | [], _ => ⟨rfl, rfl⟩
  | a :: r, h => by
    have ih := lay_strs r fun x hx => h x (List.mem_cons_of_mem _ hx)
    have ha : PyData.canLay0 (.str a) = true := h a List.mem_cons_self
    constructor
    · show (PyData.canLay0 (.str a) && PyData.canLayAll0 (r.map PyData.str)) = true
      rw [ha, ih.1]
      rfl
    · show max 0 (PyData.depthAll (r.map PyData.str)) = 0
      rw [ih.2]
      rfl
theorem shaped_ints (ns : List Int) : SeqAt.shaped (.list (ns.map PyData.int)) = true := by
  show (PyData.canLayAll0 (ns.map PyData.int) && decide (PyData.depthAll (ns.map PyData.int) + 1 ≤ 64)) = true
  rw [(lay_ints ns).1, (lay_ints ns).2]
  rfl
theorem shaped_strsL (xs : List Str) (h : ∀ x ∈ xs, txt x = true) : SeqAt.shaped (.list (xs.map PyData.str)) = true := by
  show (PyData.canLayAll0 (xs.map PyData.str) && decide (PyData.depthAll (xs.map PyData.str) + 1 ≤ 64)) = true
  rw [(lay_strs xs h).1, (lay_strs xs h).2]
  rfl
theorem eqv_nil_r (ds : List PyData) : PyData.eqv (.list ds) (.list []) = decide (ds = []) := by
  cases ds with
  | nil => rfl
  | cons a r => rfl
theorem mod_lt (a b : Int) (h : 0 < b) : 0 ≤ a % b ∧ a % b < b := ⟨Int.emod_nonneg _ (by omega), Int.emod_lt_of_pos _ h⟩
theorem mod_at {xs : List V} (a : Int) (h : 0 < xs.length) : ∃ v, atI xs (a % (xs.length : Int)) = some v ∧ v ∈ xs := by
  have hm := mod_lt a (xs.length : Int) (by omega)
  have hl : (a % (xs.length : Int)).toNat < xs.length := by omega
  refine ⟨xs[(a % (xs.length : Int)).toNat], ?_, List.getElem_mem hl⟩
  have h2 : xs[(a % (xs.length : Int)).toNat]? = some xs[(a % (xs.length : Int)).toNat] := List.getElem?_eq_getElem hl
  have h3 := atI_nat h2
  rwa [Int.toNat_of_nonneg hm.1] at h3
theorem at_lt {xs : List V} (d : Int) (h0 : 0 ≤ d) (h : d < xs.length) : ∃ v, atI xs d = some v ∧ xs[d.toNat]? = some v ∧ v ∈ xs := by
  have hl : d.toNat < xs.length := by omega
  refine ⟨xs[d.toNat], ?_, List.getElem?_eq_getElem hl, List.getElem_mem hl⟩
  have h3 := atI_nat (List.getElem?_eq_getElem hl)
  rwa [Int.toNat_of_nonneg h0] at h3
theorem mem_ints {ns : List Int} {v : V} (h : v ∈ ns.map V.int) : ∃ i, v = V.int i := by
  obtain ⟨i, _, rfl⟩ := List.mem_map.mp h
  exact ⟨i, rfl⟩

theorem pow18 : (10 : Int) ^ (18 : Int).toNat = 1000000000000000000 := by decide +kernel
theorem draw_bound (x n A B b : Int) (hx : 0 ≤ x ∧ x < 2147483648) (hn : 0 ≤ n ∧ n ≤ 1000000) (hA : 0 ≤ A ∧ A ≤ 100000) (hB : 0 ≤ B ∧ B ≤ 100000) (hb : 0 ≤ b ∧ b ≤ 100000) : (x * (2 * n + b) + A * n * n + B).natAbs < 2 ^ 64 := by
  have h1 : x * (2 * n + b) ≤ 2147483648 * 2100000 := Int.mul_le_mul (by omega) (by omega) (by omega) (by omega)
  have h2 : 0 ≤ x * (2 * n + b) := Int.mul_nonneg hx.1 (by omega)
  have h3 : A * n ≤ 100000 * 1000000 := Int.mul_le_mul hA.2 hn.2 hn.1 (by omega)
  have h4 : 0 ≤ A * n := Int.mul_nonneg hA.1 hn.1
  have h5 : A * n * n ≤ 100000 * 1000000 * 1000000 := Int.mul_le_mul h3 hn.2 hn.1 (by omega)
  have h6 : 0 ≤ A * n * n := Int.mul_nonneg h4 hn.1
  omega
theorem great_nonneg (x : Int) (b : Bool) (h : 1000000000000000000 ≤ x) : 0 ≤ 2 * (x - 1000000000000000000) + (if b = true then (1 : Int) else 0) := by
  have hb : (0 : Int) ≤ (if b = true then (1 : Int) else 0) := by cases b <;> decide
  omega

/-! ### words -/
def ltr (c : Nat) : Bool := decide (97 ≤ c) && decide (c ≤ 122)
/-- 1 to m letters -/
def lettersS (x : Str) (m : Int) : Bool := (decide (1 ≤ (x.length : Int)) && decide ((x.length : Int) ≤ m)) && x.cps.toList.all ltr
def lettersV (v : V) (m : Int) : Bool := match v with
  | .str x => lettersS x m
  | _ => false
def wordS (x : Str) : Bool := lettersS x 10
def wordV (v : V) : Bool := lettersV v 10
/-- a value whose type is known: a text of a small size, or something else -/
def Known (K : PySem.W.Frag) (G : Hp) (v : V) : Prop := (∃ x, v = .str x ∧ x.length ≤ 1000000) ∨ ((∀ x, v ≠ .str x) ∧ ∃ t, TyX K G v t ∧ PySem.W.kitOne K t (.type "str") = some false)
def spLetters (K : PySem.W.Frag) : Sp := fun vs G Q _ => ∃ (v : V) (m : Int), vs = [v, .int m] ∧ Known K G v ∧ ∀ G', Same G G' → Q (.bl (lettersV v m)) G'
def spIsWord (K : PySem.W.Frag) : Sp := fun vs G Q _ => ∃ (v : V), vs = [v] ∧ Known K G v ∧ ∀ G', Same G G' → Q (.bl (wordV v)) G'
theorem lettersV_other {v : V} {m : Int} (h : ∀ x, v ≠ .str x) : lettersV v m = false := by
  cases v with
  | str x => exact absurd rfl (h x)
  | _ => rfl
theorem big_line {n : Nat} (h : n ≤ 1000000) : n ≤ sizeLine := Nat.le_trans h (by decide)
theorem big_line' {n : Nat} (h : n ≤ 1000000) : n < sizeLine := Nat.lt_of_le_of_lt h (by decide)
theorem Same.fresh {q : Addr} {G G' : Hp} {o : HO} (k : Same G G') (h : G q = none) : Same G (upd G' q o) := fun b u e => by
  rw [upd_ne (ne_of_none e h)]
  exact k b u e
theorem take_get {α : Type} {l : List α} {i : Nat} {a : α} (h : l[i]? = some a) : l.take (i + 1) = l.take i ++ [a] := by
  obtain ⟨h1, h2⟩ := List.getElem?_eq_some_iff.mp h
  rw [List.take_succ, h]
  rfl
end Qh
set_option Elab.async false
set_option linter.all false
set_option maxRecDepth 100000
set_option maxHeartbeats 4000000
namespace K02
open PySem PySem.Spec PyProof.Rows L2 Qh
def top (i : Nat) : Stmt := PySem.Challenge.pw_quotehome_k02_words_and_texts.main.body.getD i (.Pass ⟨0, 0, 0, 0⟩)
abbrev sPen : Stmt := top 10
abbrev sDraw : Stmt := top 11
abbrev sPick : Stmt := top 12
section
variable {P : Program} {w : World} {K : PySem.W.Frag} {mg : Str → Option Value} {base : Heap}
theorem scPen : FnScope ["_law_script"] ["_law_script"] (defScope sPen) := ⟨rfl, rfl, rfl, by decide +kernel, rfl, by decide +kernel, by decide +kernel⟩
theorem ok_pen (D : DefIn K mg "_law_pen" sPen) (B : Blt mg) : Ok P w K mg base "_law_pen" (defArgs sPen) ["_law_script"] 1 (spPen K) := by
  refine D.ok scPen (fun vs G Q E h => ?_) (fun _ _ _ _ _ _ us hl => match us, hl with | [_], _ => rfl) (fun f cdv A out t G vs Q E hr h => ?_)
  · obtain ⟨a, ns, rfl, _⟩ := h
    rfl
  · obtain ⟨a, ns, rfl, hS, k⟩ := h
    refine ⟨_, pss_one (ps_ret (pe_lst (pa_cons (pe_callTy call_list_of (by rfl) B.n_list bt_list (pa_cons (pe_slice sl_list (pv 0) po_none (po_some pe_int)) pa_nil)) (pa_cons pe_int (pa_cons pe_int pa_nil))))), ?_⟩
    refine ⟨_, rfl, 63, rfl, a, ns.map V.int, rfl, hS, fun q hq => ?_⟩
    refine ⟨q, _, rfl, .inl (SqL.of upd_same), fun l hl => ?_⟩
    refine ⟨by show 3 ≤ sizeLine; decide, fun p hp => ?_⟩
    have lq : l ≠ q := fun e => by rw [e, upd_same] at hl; cases hl
    have pl : p ≠ l := fun e => by rw [e, upd_same] at hp; cases hp
    have pq : p ≠ q := fun e => by rw [e, upd_ne lq.symm, upd_same] at hp; cases hp
    have nl : G l = none := by rw [upd_ne lq] at hl; exact hl
    have np : G p = none := by rw [upd_ne pl, upd_ne pq] at hp; exact hp
    have hcut : cutV (ns.map V.int) none (some 63) = (ns.take 63).map V.int := by
      unfold cutV
      rw [HT.sIx_none, show (some (63 : Int)) = some ((63 : Nat) : Int) from rfl, HT.sIx_nat, List.drop_zero, Nat.sub_zero, List.map_take]
      by_cases h : 63 ≤ (ns.map V.int).length
      · rw [Nat.min_eq_left h]
      · rw [Nat.min_eq_right (by omega), List.take_of_length_le (Nat.le_refl _), List.take_of_length_le (by omega)]
    refine k p l _ np (fun b o e => ?_) ⟨0, 0, ns.take 63, upd_same, ?_, pl.symm, Int.le_refl _, Int.le_refl _, Int.le_refl _⟩
    · rw [upd_ne (ne_of_none e np), upd_ne (ne_of_none e nl), upd_ne (ne_of_none e hq)]
      exact e
    · rw [upd_ne pl.symm, upd_same, hcut]
theorem scDraw : FnScope ["_law_pen_here", "_law_many", "_law_digit", "_law_at", "_law_cell", "_law_great", "_law_mixed"] ["_law_pen_here", "_law_many"] (defScope sDraw) := ⟨rfl, rfl, rfl, by decide +kernel, rfl, by decide +kernel, by decide +kernel⟩

theorem ok_draw (D : DefIn K mg "_law_draw" sDraw) (B : Blt mg) : Ok P w K mg base "_law_draw" (defArgs sDraw) ["_law_pen_here", "_law_many"] 1 spDraw := by
  refine D.ok scDraw (fun vs G Q E h => ?_) (fun _ _ _ _ _ _ us hl => match us, hl with | [_, _], _ => rfl) (fun f cdv A out t G vs Q E hr h => ?_)
  · obtain ⟨p, l, c, m, rfl, _⟩ := h
    rfl
  · obtain ⟨p, l, c, m, rfl, ⟨n, g, ns, hp, hl, lp, n0, nc, g0⟩, hc, m0, mm, k⟩ := h
    have hu64 := hr.units
    refine ⟨_, (pss_cons (ps_if (pt_cmpR op_gt (pe_ix ix_list (pv 0) pe_int (fun _ _ => rfl)) pe_int (nomark _)) (pss_cons (ps_set (i := 2) scDraw.nd rfl (by first | exact Or.inl rfl | exact Or.inr rfl) (pe_op op_mod (pe_callTy call_int1 (by rfl) B.n_int bt_int (pa_cons (pe_ix ix_list (pv 0) pe_int (fun _ _ => rfl)) pa_nil)) (pv 1)))
    (pss_cons (ps_asg (pe_op op_fdiv (pe_callTy call_int1 (by rfl) B.n_int bt_int (pa_cons (pe_ix ix_list (pv 0) pe_int (fun _ _ => rfl)) pa_nil)) (pv 1)) (pg_sub (pv 0) pe_int set_list))
    (pss_one (ps_ret (pv 2))))) pss_nil)
    (pss_cons (ps_set (i := 3) scDraw.nd rfl (by first | exact Or.inl rfl | exact Or.inr rfl) (pe_ix ix_list (pv 0) pe_int (fun _ _ => rfl)))
    (pss_cons (ps_asg (pe_op op_add (pv 3) pe_int) (pg_sub (pv 0) pe_int set_list))
    (pss_cons (ps_set (i := 4) scDraw.nd rfl (by first | exact Or.inl rfl | exact Or.inr rfl) (pe_op op_add (pe_op op_mul pe_int (pv 3)) pe_int))
    (pss_cons (ps_if (pt_cmpR (op_neD hu64) (pe_ix ix_list (pv 0) pe_int (fun _ _ => rfl)) (pe_lst pa_nil) (nomark _)) (pss_one (ps_set (i := 4) scDraw.nd rfl (by first | exact Or.inl rfl | exact Or.inr rfl) (pe_ix ix_list (pe_ix ix_list (pv 0) pe_int (fun _ _ => rfl)) (pe_op op_mod (pe_callTy call_int1 (by rfl) B.n_int bt_int (pa_cons (pv 3) pa_nil)) (pe_callB call_len (by rfl) B.n_len bt_len (pa_cons (pe_ix ix_list (pv 0) pe_int (fun _ _ => rfl)) pa_nil))) (fun _ _ => rfl)))) pss_nil)
    (pss_cons (ps_if (PW.pt (pw_and (pt_cmpR op_lt (pv 3) (pe_callB call_len (by rfl) B.n_len bt_len (pa_cons (pe_ix ix_list (pv 0) pe_int (fun _ _ => rfl)) pa_nil)) (nomark _)) (pw_and1 (pt_cmpR op_ge (pe_callB call_abs (by rfl) B.n_abs bt_abs (pa_cons (pv 4) pa_nil)) (pe_op op_pow pe_int pe_int) (nomark _))))) (pss_cons (ps_set (i := 5) scDraw.nd rfl (by first | exact Or.inl rfl | exact Or.inr rfl) (pe_op op_add (pe_op op_mul pe_int (pe_op op_sub (pe_callB call_abs (by rfl) B.n_abs bt_abs (pa_cons (pv 4) pa_nil)) (pe_op op_pow pe_int pe_int))) (pe_callTy call_int1 (by rfl) B.n_int bt_int (pa_cons (pe_cmpR op_lt (pv 4) pe_int (nomark _)) pa_nil))))
    (pss_cons (ps_asg (pe_op op_fdiv (pe_callTy call_int1 (by rfl) B.n_int bt_int (pa_cons (pv 5) pa_nil)) (pv 1)) (pg_sub (pv 0) pe_int set_list))
    (pss_one (ps_ret (pe_op op_mod (pe_callTy call_int1 (by rfl) B.n_int bt_int (pa_cons (pv 5) pa_nil)) (pv 1)))))) pss_nil)
    (pss_cons (ps_set (i := 6) scDraw.nd rfl (by first | exact Or.inl rfl | exact Or.inr rfl) (pe_op op_mod (pe_callTy call_int1 (by rfl) B.n_int bt_int (pa_cons (pe_op op_pow (pe_op op_add (pe_op op_add (pe_op op_mod (pe_callTy call_int1 (by rfl) B.n_int bt_int (pa_cons (pv 4) pa_nil)) pe_int) (pe_op op_mul pe_int (pv 3))) pe_int) pe_int) pa_nil)) pe_int))
    (pss_cons (ps_set (i := 6) scDraw.nd rfl (by first | exact Or.inl rfl | exact Or.inr rfl) (pe_op op_mod (pe_callTy call_int1 (by rfl) B.n_int bt_int (pa_cons (pe_op op_pow (pe_op op_add (pe_op op_add (pe_op op_mul (pv 6) (pe_op op_add (pe_op op_mul pe_int (pv 3)) pe_int)) (pe_op op_mul (pe_op op_mul pe_int (pv 3)) (pv 3))) pe_int) pe_int) pa_nil)) pe_int))
    (pss_one (ps_ret (pe_op op_mod (pe_callTy call_int1 (by rfl) B.n_int bt_int (pa_cons (pe_op op_fdiv (pv 6) pe_int) pa_nil)) (pv 1)))))))))))), ?_⟩
    refine ⟨_, rfl, p, _, _, _, rfl, rfl, SqL.of hp, rfl, _, _, rfl, rfl, _, rfl, ?_⟩
    refine ite2 (fun hg => ?_) (fun hg => ?_)
    · have hg := of_decide_eq_true hg
      refine ⟨_, rfl, p, _, _, _, rfl, rfl, SqL.of hp, rfl, .inl ⟨_, rfl, _, rfl, _, _, rfl, rfl, m0, ?_⟩⟩
      refine ⟨_, rfl, p, _, _, _, rfl, rfl, SqL.of hp, rfl, .inl ⟨_, rfl, _, rfl, _, _, rfl, rfl, ⟨m0, by omega⟩, _, rfl, p, _, _, 2, rfl, rfl, hp, rfl, ?_⟩⟩
      refine ⟨_, rfl, ?_⟩
      refine k (g % m) _ (mod_lt g m m0).1 (mod_lt g m m0).2 Kp.self ⟨n, g / m, ns, upd_same, ?_, lp, n0, by omega, Int.ediv_nonneg g0 (by omega)⟩
      rw [upd_ne lp]
      exact hl
    · -- at = pen[1]; pen[1] = at + 1; cell = ..
      refine ⟨_, rfl, p, _, _, _, rfl, rfl, SqL.of hp, rfl, ?_⟩
      refine ⟨_, rfl, _, _, rfl, rfl, _, rfl, p, _, _, 1, rfl, rfl, hp, rfl, ?_⟩
      have hp1 : (upd G p (.lst [.ref l, .int (n + 1), .int g])) p = some (.lst [.ref l, .int (n + 1), .int g]) := upd_same
      have hl1 : (upd G p (.lst [.ref l, .int (n + 1), .int g])) l = some (.lst (ns.map V.int)) := by
        rw [upd_ne lp]
        exact hl
      refine ⟨_, rfl, _, _, rfl, rfl, .inl ⟨by decide, by decide⟩, _, _, rfl, rfl, ?_⟩
      -- if pen[0] != []
      refine ⟨_, rfl, p, _, _, _, rfl, rfl, SqL.of hp1, rfl, by show 0 ≤ sizeLine; decide, fun q hq => ?_⟩
      have lq : l ≠ q := ne_of_none hl1 hq
      have pq : p ≠ q := ne_of_none hp1 hq
      have hl2 : (upd (upd G p (.lst [.ref l, .int (n + 1), .int g])) q (.lst [])) l = some (.lst (ns.map V.int)) := by
        rw [upd_ne lq]
        exact hl1
      have hp2 : (upd (upd G p (.lst [.ref l, .int (n + 1), .int g])) q (.lst [])) p = some (.lst [.ref l, .int (n + 1), .int g]) := by
        rw [upd_ne pq]
        exact hp1
      have nq : G q = none := by
        rw [upd_ne pq.symm] at hq
        exact hq
      have kp2 : Kp p G (upd (upd G p (.lst [.ref l, .int (n + 1), .int g])) q (.lst [])) := Kp.fresh Kp.self nq
      have hq2 : (upd (upd G p (.lst [.ref l, .int (n + 1), .int g])) q (.lst [])) q = some (.lst []) := upd_same
      refine ⟨.list (ns.map PyData.int), .list [], .lst (SqL.of hl2) (dp_ints ns), .lst (SqL.of hq2) .nil, shaped_ints ns, rfl, _, rfl, ?_⟩
      rw [eqv_nil_r]
      refine ite2 (fun hne => ?yes) (fun hne => ?no)
      case' yes =>
        have hz : 0 < (ns.map V.int).length := by
          cases ns with
          | nil => exact absurd hne (by decide)
          | cons a r => exact Nat.succ_pos _
        obtain ⟨v, hv, hm⟩ := mod_at (xs := ns.map V.int) n hz
        obtain ⟨cell, rfl⟩ := mem_ints hm
        refine ⟨_, rfl, p, _, _, _, rfl, rfl, SqL.of hp2, rfl, _, rfl, .inl ⟨_, rfl, ?_⟩⟩
        refine ⟨_, rfl, p, _, _, _, rfl, rfl, SqL.of hp2, rfl, .ref l, _, rfl, .inl ⟨_, SqL.of hl2, rfl⟩, _, _, rfl, rfl, by omega, l, _, _, _, rfl, rfl, SqL.of hl2, hv, ?_⟩
      all_goals
        refine ⟨_, rfl, _, rfl, p, _, _, _, rfl, rfl, SqL.of hp2, rfl, .ref l, _, rfl, .inl ⟨_, SqL.of hl2, rfl⟩, _, _, rfl, rfl, _, rfl, ?_⟩
        refine ite2 (fun _ => ?_) (fun _ => ?_)
        case' _ =>
          refine ⟨_, rfl, _, rfl, _, _, rfl, rfl, ⟨by decide, by decide, by decide⟩, _, _, rfl, rfl, _, rfl, ?_⟩
          rw [pow18]
          refine ite2 (fun hbig => ?_) (fun hbig => ?_)
          case _ =>
            have hbig := of_decide_eq_true hbig
            refine ⟨_, rfl, _, rfl, _, _, rfl, rfl, ⟨by decide, by decide, by decide⟩, _, _, rfl, rfl, _, _, rfl, rfl, .inl ⟨by decide, by decide⟩, _, rfl, _, _, rfl, rfl, .inr ⟨_, rfl, _, _, rfl, rfl, ?_⟩⟩
            refine ⟨_, rfl, .inl ⟨_, rfl, _, rfl, _, _, rfl, rfl, ⟨m0, by omega⟩, _, rfl, p, _, _, 2, rfl, rfl, hp2, rfl, ?_⟩⟩
            refine ⟨_, rfl, .inl ⟨_, rfl, _, rfl, _, _, rfl, rfl, m0, ?_⟩⟩
            refine k _ _ (mod_lt _ m m0).1 (mod_lt _ m m0).2 (Kp.trans kp2 Kp.self) ⟨n + 1, _, ns, upd_same, ?_, lp, by omega, by omega, Int.ediv_nonneg ?_ (by omega)⟩
            · rw [upd_ne lp]
              exact hl2
            · rw [pow18]
              exact great_nonneg _ _ hbig
        all_goals
          refine ⟨_, rfl, .inl ⟨_, rfl, _, _, rfl, rfl, by show (0 : Int) < _; decide, _, rfl, _, _, rfl, rfl, .inl ⟨by decide, by decide⟩, _, _, rfl, rfl, _, _, rfl, rfl, _, _, rfl, rfl, ⟨by decide, by decide, ?_⟩, .inl ⟨_, rfl, _, _, rfl, rfl, by show (0 : Int) < _; decide, ?_⟩⟩⟩
          · omega
          refine ⟨_, rfl, _, rfl, _, _, rfl, rfl, .inl ⟨by decide, by decide⟩, _, _, rfl, rfl, _, _, rfl, rfl, .inr ⟨by omega, by omega⟩, ?_⟩
          refine ⟨_, rfl, _, _, rfl, rfl, .inl ⟨by decide, by decide⟩, _, rfl, _, _, rfl, rfl, .inr ⟨by omega, by omega⟩, _, _, rfl, rfl, _, _, rfl, rfl, _, _, rfl, rfl, ⟨by decide, by decide, ?_⟩, .inl ⟨_, rfl, _, _, rfl, rfl, by show (0 : Int) < _; decide, ?_⟩⟩
          · exact draw_bound _ _ _ _ _ ⟨(mod_lt _ _ (by decide)).1, Int.lt_trans (mod_lt _ _ (by decide)).2 (by decide)⟩ ⟨n0, by omega⟩ (by decide) (by decide) (by decide)
          refine ⟨_, rfl, _, _, rfl, rfl, ⟨by decide, by decide⟩, .inl ⟨_, rfl, _, rfl, _, _, rfl, rfl, m0, ?_⟩⟩
          exact k _ _ (mod_lt _ m m0).1 (mod_lt _ m m0).2 kp2 ⟨n + 1, g, ns, hp2, hl2, lp, by omega, by omega, g0⟩
theorem scPick : FnScope ["_law_pen_here", "_law_some"] ["_law_pen_here", "_law_some"] (defScope sPick) := ⟨rfl, rfl, rfl, by decide +kernel, rfl, by decide +kernel, by decide +kernel⟩
theorem ok_pick (D : DefIn K mg "_law_pick" sPick) (B : Blt mg) (F__law_draw : Ok P w K mg base "_law_draw" (defArgs sDraw) ["_law_pen_here", "_law_many"] 1 spDraw) : Ok P w K mg base "_law_pick" (defArgs sPick) ["_law_pen_here", "_law_some"] 2 (spPick K) := by
  refine D.ok scPick (fun vs G Q E h => ?_) (fun _ _ _ _ _ _ us hl => match us, hl with | [_, _], _ => rfl) (fun f cdv A out t G vs Q E hr h => ?_)
  · obtain ⟨p, l, a, c, xs, rfl, _⟩ := h
    rfl
  · obtain ⟨p, l, a, c, xs, rfl, hP, hc, ha, hS, h0, h1, k⟩ := h
    refine ⟨_, pss_one (ps_ret (pe_ix ix_list (pv 1) (pe_own F__law_draw (hr.mono (by decide)) takes0 (pa_cons (pv 0) (pa_cons (pe_callB call_len (by rfl) B.n_len bt_len (pa_cons (pv 1) pa_nil)) pa_nil))) (fun _ _ => rfl))), ?_⟩
    refine ⟨_, rfl, _, rfl, _, rfl, .ref a, _, rfl, .inl ⟨xs, hS, rfl⟩, p, l, c, (xs.length : Int), rfl, hP, hc, by omega, by omega, fun d G' d0 dm kp P' => ?_⟩
    obtain ⟨v, hv, _, hm⟩ := at_lt d d0 dm
    exact ⟨a, xs, d, v, rfl, rfl, kp.seq ha hS, hv, k v G' hm kp P'⟩
end
end K02
set_option Elab.async false
set_option linter.all false
set_option maxRecDepth 100000
set_option maxHeartbeats 4000000
/-! Texts of letters by isascii, isalpha, islower. -/
namespace Qh
open PySem PySem.Spec PyProof.Rows L2
theorem uni128 : ∀ c : Fin 128, (Unicode.isAlpha c.val && !(Unicode.isUpper c.val || Unicode.isTitle c.val)) = ltr c.val ∧ (ltr c.val = true → Unicode.isLower c.val = true) := by decide +kernel
theorem uni_all (l : List Nat) (h : l.all (fun c => decide (c < 128)) = true) : (l.all Unicode.isAlpha && !l.any fun c => Unicode.isUpper c || Unicode.isTitle c) = l.all ltr := by
  induction l with
  | nil => rfl
  | cons a r ih =>
    rw [List.all_cons, Bool.and_eq_true] at h
    have ha := of_decide_eq_true h.1
    have h1 := (uni128 ⟨a, ha⟩).1
    have ih := ih h.2
    simp only [List.all_cons, List.any_cons, Bool.not_or]
    rw [← ih, ← h1]
    simp only [Bool.not_or]
    cases Unicode.isAlpha a <;> cases Unicode.isUpper a <;> cases Unicode.isTitle a <;> simp
theorem ltr_ascii (c : Nat) (h : ltr c = true) : c < 128 := by
  unfold ltr at h
  simp at h
  omega
theorem letters_now (x : Str) : (if Txt.isascii x = true then (if Txt.isalpha x = true then Txt.islower x else false) else false) = (decide (1 ≤ (x.length : Int)) && x.cps.toList.all ltr) := by
  have e1 : Txt.isascii x = x.cps.toList.all (fun c => decide (c < 128)) := by
    unfold Txt.isascii
    rw [← Array.all_toList]
  have e2 : Txt.isalpha x = (decide (x.length > 0) && x.cps.toList.all Unicode.isAlpha) := by
    unfold Txt.isalpha
    rw [← Array.all_toList]
  have e3 : Txt.islower x = (x.cps.toList.any Unicode.isLower && !x.cps.toList.any fun c => Unicode.isUpper c || Unicode.isTitle c) := by
    unfold Txt.islower
    rw [← Array.any_toList, ← Array.any_toList]
  have el : x.length = x.cps.toList.length := by simp [Str.length]
  rw [e1, e2, e3, el]
  generalize x.cps.toList = l
  cases ha : l.all (fun c => decide (c < 128)) with
  | false =>
    have : l.all ltr = false := by
      cases hl : l.all ltr with
      | false => rfl
      | true =>
        rw [List.all_eq_true] at hl
        rw [← ha]
        symm
        rw [List.all_eq_true]
        exact fun c hc => decide_eq_true (ltr_ascii c (hl c hc))
    rw [this]
    simp
  | true =>
    have h := uni_all l ha
    cases l with
    | nil => rfl
    | cons a r =>
      have hlow : (a :: r).all ltr = true → (a :: r).any Unicode.isLower = true := fun hh => by
        rw [List.all_eq_true] at hh
        rw [List.any_eq_true]
        have h1 := hh a (List.mem_cons_self)
        exact ⟨a, List.mem_cons_self, (uni128 ⟨a, ltr_ascii a h1⟩).2 h1⟩
      rw [← h] at hlow ⊢
      rw [if_pos rfl]
      have p1 : decide ((a :: r).length > 0) = true := decide_eq_true (Nat.succ_pos _)
      have p2 : decide (1 ≤ (((a :: r).length : Nat) : Int)) = true := by
        refine decide_eq_true ?_
        have := Nat.succ_pos r.length
        rw [List.length_cons]
        omega
      rw [p1, p2]
      revert hlow
      generalize (a :: r).all Unicode.isAlpha = p
      generalize (a :: r).any Unicode.isLower = q
      generalize ((a :: r).any fun c => Unicode.isUpper c || Unicode.isTitle c) = s
      intro hlow
      cases p <;> cases q <;> cases s <;> simp at hlow ⊢
end Qh
set_option Elab.async false
set_option linter.all false
set_option maxRecDepth 100000
set_option maxHeartbeats 4000000
namespace K02
open PySem PySem.Spec PyProof.Rows L2 Qh
abbrev sLetters : Stmt := top 5
abbrev sIsWord : Stmt := top 6
section
variable {P : Program} {w : World} {K : PySem.W.Frag} {mg : Str → Option Value} {base : Heap}
theorem scLetters : FnScope ["value", "most"] ["value", "most"] (defScope sLetters) := ⟨rfl, rfl, rfl, by decide +kernel, rfl, by decide +kernel, by decide +kernel⟩
theorem ok_letters (D : DefIn K mg "is_letters" sLetters) (B : Blt mg) : Ok P w K mg base "is_letters" (defArgs sLetters) ["value", "most"] 1 (spLetters K) := by
  refine D.ok scLetters (fun vs G Q E h => ?_) (fun _ _ _ _ _ _ us hl => match us, hl with | [_, _], _ => rfl) (fun f cdv A out t G vs Q E hr h => ?_)
  · obtain ⟨v, m, rfl, _⟩ := h
    rfl
  · obtain ⟨v, m, rfl, hv, k⟩ := h
    refine ⟨_, (pss_cons (ps_if (PW.pt (pw_or (pt_not (pt_val (pe_callB call_isi (by rfl) B.n_isinstance bt_isinstance (pa_cons (pv 0) (pa_cons (pe_bltn (v := .ty "str") (by rfl) B.n_str bt_str rfl) pa_nil))))) (pw_or1 (pt_cmpR op_gt (pe_callB call_len (by rfl) B.n_len bt_len (pa_cons (pv 0) pa_nil)) (pv 1) (nomark _))))) (pss_one (ps_ret pe_bl)) pss_nil)
      (pss_one (ps_ret (pe_and (pe_bm0 PySem.F.plainAttrs_str PySem.F.slot_str_isascii PySem.F.type_str_isascii mt_isascii (pv 0)) (pe_and (pe_bm0 PySem.F.plainAttrs_str PySem.F.slot_str_isalpha PySem.F.type_str_isalpha mt_isalpha (pv 0)) (pe_one (pe_bm0 PySem.F.plainAttrs_str PySem.F.slot_str_islower PySem.F.type_str_islower mt_islower (pv 0)))))))), ?_⟩
    rcases hv with ⟨x, rfl, hx⟩ | ⟨hno, ty, hty, hk⟩
    · refine ⟨_, rfl, _, _, _, _, _, rfl, .ty _, .base (.str x), kit_ty (r := true) (by decide +kernel), _, rfl, ?_⟩
      refine iteF ?_
      refine ⟨_, rfl, .str x, x.length, rfl, ⟨big_line hx, rfl⟩, _, rfl, _, _, rfl, rfl, _, rfl, ?_⟩
      have hk := k G (Same.refl G)
      have e : lettersV (.str x) m = (decide ((x.length : Int) ≤ m) && (decide (1 ≤ (x.length : Int)) && x.cps.toList.all ltr)) := by
        show lettersS x m = _
        unfold lettersS
        cases decide (1 ≤ (x.length : Int)) <;> cases decide ((x.length : Int) ≤ m) <;> rfl
      rw [e, ← letters_now] at hk
      refine ite2 (fun h1 => ?_) (fun h1 => ?_)
      · have h1 : decide ((x.length : Int) ≤ m) = false := by
          have := of_decide_eq_true h1
          exact decide_eq_false (by omega)
        rw [h1] at hk
        exact hk
      · have h1 : decide ((x.length : Int) ≤ m) = true := by
          have : ¬ ((x.length : Int) > m) := fun z => h1 (decide_eq_true z)
          exact decide_eq_true (by omega)
        rw [h1, Bool.true_and] at hk
        refine ⟨_, rfl, rfl, x, rfl, rfl, trivial, _, rfl, ?_⟩
        refine ite2 (fun h2 => ?_) (fun h2 => ?_)
        · rw [if_pos h2] at hk
          refine ⟨_, rfl, rfl, x, rfl, rfl, trivial, _, rfl, ?_⟩
          refine ite2 (fun h3 => ?_) (fun h3 => ?_)
          · rw [if_pos h3] at hk
            exact ⟨_, rfl, rfl, x, rfl, rfl, trivial, hk⟩
          · rw [if_neg h3] at hk
            exact hk
        · rw [if_neg h2] at hk
          exact hk
    · refine ⟨_, rfl, _, _, _, _, _, rfl, .ty _, hty, hk, _, rfl, ?_⟩
      refine iteT ?_
      have h := k G (Same.refl G)
      rw [lettersV_other hno] at h
      exact h
theorem scIsWord : FnScope ["value"] ["value"] (defScope sIsWord) := ⟨rfl, rfl, rfl, by decide +kernel, rfl, by decide +kernel, by decide +kernel⟩
theorem ok_isWord (D : DefIn K mg "is_word" sIsWord) (hM : ∃ t, mg "MOST_LETTERS" = some (.int 10 t)) (F_is_letters : Ok P w K mg base "is_letters" (defArgs sLetters) ["value", "most"] 1 (spLetters K)) : Ok P w K mg base "is_word" (defArgs sIsWord) ["value"] 2 (spIsWord K) := by
  refine D.ok scIsWord (fun vs G Q E h => ?_) (fun _ _ _ _ _ _ us hl => match us, hl with | [_], _ => rfl) (fun f cdv A out t G vs Q E hr h => ?_)
  · obtain ⟨v, rfl, _⟩ := h
    rfl
  · obtain ⟨v, rfl, hv, k⟩ := h
    obtain ⟨tk, hM⟩ := hM
    refine ⟨_, pss_one (ps_ret (pe_own F_is_letters (hr.mono (by decide)) takes0 (pa_cons (pv 0) (pa_cons (pe_glob (v := .int 10) rfl hM ⟨_, rfl⟩) pa_nil)))), ?_⟩
    exact ⟨_, rfl, v, 10, rfl, hv, k⟩
end
end K02
set_option Elab.async false
set_option linter.all false
set_option maxRecDepth 100000
set_option maxHeartbeats 4000000
/-! Own errors with one field or more, made by their own __init__. -/
namespace Qh
open PySem PySem.Spec PyProof.Rows L2 TL
/-- the class at C as the top has left it -/
structure ErrC (K : PySem.W.Frag) (mg : Str → Option Value) (x : Str) (C : Addr) : Prop where
  g : mg x = some (.ref C)
  o : OexC K C
  xf : XfC K C
  ec : ExcC K C
/-- C.__init__(self, f): self.f = f -/
def spErr1 (C : Addr) (f : Str) : Sp := fun vs G Q _ => ∃ (a : Addr) (v : V), vs = [.ref a, v] ∧ G a = some (exo a C none) ∧ ∀ d, G d = none → d ≠ a → Q .non (upd (upd G d (exd d [(f, v)])) a (exo a C (some d)))
structure Err1 (P : Program) (w : World) (K : PySem.W.Frag) (mg : Str → Option Value) (base : Heap) (x f : Str) (C : Addr) : Prop where
  c : ErrC K mg x C
  no : PySem.W.findIn K (.ref C) f = some none
  init : ∃ (fI : Addr) (fd : FuncData), PySem.W.findIn K (.ref C) "__init__" = some (some (.ref fI)) ∧ PySem.W.typeIn K (.ref fI) = some (.type "function") ∧ Binds K fd ["self", f] [] ∧
    FnOk P w K mg base (L2.CX P w) 1 fI fd ["self", f] (spErr1 C f)
theorem err_heap {G : Hp} {a d C : Addr} {u : HO} {fs : List (Str × V)} (ha : G a = none) (hd : d ≠ a) :
    upd (del (upd (upd (upd G a (exo a C none)) d (exd d fs)) a (exo a C (some d))) a) d u = upd G d u := by
  funext b
  by_cases hb : b = d
  · subst hb
    rw [upd_same, upd_same]
  · rw [upd_ne hb, upd_ne hb]
    by_cases hba : b = a
    · subst hba
      rw [del_same, ha]
    · rw [del_ne hba, upd_ne hba, upd_ne hb, upd_ne hba]
section
variable {X : Cx} {x f : Str} {C : Addr} {e : Expr} {te : TE} {p pos : Pos}
/-- C(e) -/
theorem pmk_err1 (T : Err1 X.prog X.w X.K X.mg X.base x f C) (hr : Room 2 X.A) (he : PE X e te) (hg : Gl X x := by rfl) (hdb : (x == ("__debug__" : Str)) = false := by decide)
    (hs : starEach (e :: []) X.env = (false, eval e X.env) :: starEach [] X.env := by rfl) (hpl : (backTo pos (starEach [] X.env)).any (·.1) = false := by rfl) :
    PMk X (.Call (.Name x p) [e] [] pos) (tMkO C (spErr1 C f) [] (tCons te tNil)) := by
  obtain ⟨fI, fd, iC, tI, hb, F⟩ := T.init
  exact pmk_oex (p := p) (pos := pos) T.c.o iC tI F hr hb .nil passL hg T.c.g (pa_cons he pa_nil hs) hdb hs hpl
end
/-- .. what its reading ends in -/
theorem err1_end {f : Str} {C : Addr} {v : V} {G1 : Hp} {Q : XK} (q : ∀ d, G1 d = none → Q (.ref C) (some d) (upd G1 d (.xd [(f, v)]))) :
    ([v] : List V).length ≤ 1000 ∧ ∀ a, G1 a = none → spErr1 C f (.ref a :: ([v] ++ [])) (upd G1 a (exo a C none))
      (fun v H2 => v = .non ∧ ∃ (d : Addr) (fs : List (Str × V)), H2 a = some (exo a C (some d)) ∧ H2 d = some (exd d fs) ∧ G1 d = none ∧ Q (.ref C) (some d) (upd (del H2 a) d (.xd fs))) (fun _ _ _ => False) := by
  refine ⟨by show 1 ≤ 1000; omega, fun a ha => ⟨a, v, rfl, upd_same, fun d hd da => ⟨rfl, d, [(f, v)], upd_same, ?_, ?_, ?_⟩⟩⟩
  · rw [upd_ne da, upd_same]
  · rw [upd_ne da] at hd
    exact hd
  · rw [err_heap ha da]
    rw [upd_ne da] at hd
    exact q d hd

/-! ### parts between blanks -/
theorem spl_len (S : List Nat) : ∀ (l : List Nat) (k : Nat) (acc : List Nat), (∀ p ∈ spl S k acc l, p.length ≤ acc.length + l.length) ∧ (spl S k acc l).length ≤ l.length + 1
  | [], k, acc => by
    rw [spl_nil]
    exact ⟨fun p hp => by rw [List.mem_singleton.mp hp]; simp, by simp⟩
  | c :: r, 0, acc => by
    by_cases h : pre S (c :: r) = true
    · rw [spl_hit h]
      have ih := spl_len S r (S.length - 1) []
      refine ⟨fun p hp => ?_, by simp only [List.length_cons]; omega⟩
      rcases List.mem_cons.mp hp with rfl | hp
      · omega
      · have := ih.1 p hp
        simp only [List.length_nil, List.length_cons] at this ⊢
        omega
    · rw [spl_miss (by simpa using h)]
      have ih := spl_len S r 0 (acc ++ [c])
      refine ⟨fun p hp => ?_, by simp only [List.length_cons]; omega⟩
      have := ih.1 p hp
      simp only [List.length_append, List.length_cons, List.length_nil] at this ⊢
      omega
  | c :: r, k + 1, acc => by
    have ih := spl_len S r k acc
    have e : spl S (k + 1) acc (c :: r) = spl S k acc r := rfl
    rw [e]
    refine ⟨fun p hp => ?_, by simp only [List.length_cons]; omega⟩
    have := ih.1 p hp
    simp only [List.length_cons]
    omega
def blank : Str := Str.ofString " "
theorem tl_blank : tl blank = [32] := by decide +kernel
theorem kind_blank : blank.cps.all (· < 256) = true := by decide +kernel
def partsOf (x : Str) : List Str := Txt.split x blank
theorem parts_spl (x : Str) : (partsOf x).map tl = spl [32] 0 [] (tl x) := by
  have h := split_spl x blank (by rw [tl_blank]; simp) (kind_ok kind_blank)
  rw [tl_blank] at h
  exact h
theorem parts_len {x p : Str} (h : p ∈ partsOf x) : p.length ≤ x.length := by
  have h1 : tl p ∈ spl [32] 0 [] (tl x) := by
    rw [← parts_spl]
    exact List.mem_map_of_mem h
  have h2 := (spl_len [32] (tl x) 0 []).1 _ h1
  rw [len_tl, len_tl]
  simpa using h2
theorem parts_count (x : Str) : (partsOf x).length ≤ x.length + 1 := by
  have h2 := (spl_len [32] (tl x) 0 []).2
  rw [← parts_spl, List.length_map, ← len_tl] at h2
  exact h2
/-- words joined by blanks, parted again -/
theorem parts_join {ps : List Str} (hne : ps ≠ []) (h : ∀ p ∈ ps, 32 ∉ tl p) : partsOf (Txt.join blank ps) = ps := split_join tl_blank kind_blank hne h
/-- what words_of tells of a value: the words, or the index of the first part that is none -/
def heardS (x : Str) : List Str ⊕ Nat := if x.length = 0 then .inl [] else match (partsOf x).findIdx? (fun p => !wordS p) with
  | none => .inl (partsOf x)
  | some i => .inr i
def heardV (v : V) : List Str ⊕ Nat := match v with
  | .str x => heardS x
  | _ => .inr 0
theorem heardV_other {v : V} (h : ∀ x, v ≠ .str x) : heardV v = .inr 0 := by
  cases v with
  | str x => exact absurd rfl (h x)
  | _ => rfl
def spWordsOf (K : PySem.W.Frag) (C : Addr) : Sp := fun vs G Q E => ∃ (v : V), vs = [v] ∧ Known K G v ∧
  (∀ ps, heardV v = .inl ps → ∀ q G', G q = none → Same G G' → G' q = some (.tup (ps.map V.str)) → Q (.ref q) G') ∧
  (∀ i : Nat, heardV v = .inr i → ∀ d G', G d = none → Same G G' → G' d = some (.xd [("index", .int (i : Int))]) → E (.ref C) (some d) G')
def spTextOf (K : PySem.W.Frag) : Sp := fun vs G Q _ => ∃ (a : Addr) (ys : List Str), vs = [.ref a] ∧ (SqL K G a (ys.map V.str) ∨ SqT K G a (ys.map V.str)) ∧ (ys.map (·.length)).sum + ys.length ≤ 1000000 ∧ Q (.str (Txt.join blank ys)) G

theorem findIdx_some {α : Type} {p : α → Bool} : ∀ {xs : List α} {i : Nat} {a : α}, xs[i]? = some a → p a = true → (∀ (j : Nat) (b : α), j < i → xs[j]? = some b → p b = false) → xs.findIdx? p = some i
  | [], i, a, h, _, _ => by simp at h
  | x :: r, 0, a, h, ha, _ => by
    have e : x = a := by simpa using h
    rw [List.findIdx?_cons, e, ha]
    rfl
  | x :: r, i + 1, a, h, ha, hb => by
    have h0 : p x = false := hb 0 x (by omega) (by simp)
    have ih := findIdx_some (p := p) (xs := r) (i := i) (a := a) (by simpa using h) ha fun j b hj hjb => hb (j + 1) b (by omega) (by simpa using hjb)
    rw [List.findIdx?_cons, h0, ih]
    rfl
theorem findIdx_none {α : Type} {p : α → Bool} : ∀ {xs : List α}, (∀ (j : Nat) (b : α), xs[j]? = some b → p b = false) → xs.findIdx? p = none
  | [], _ => rfl
  | x :: r, hb => by
    have h0 : p x = false := hb 0 x (by simp)
    have ih := findIdx_none (p := p) (xs := r) fun j b hjb => hb (j + 1) b (by simpa using hjb)
    rw [List.findIdx?_cons, h0, ih]
    rfl
theorem heard_at {x : Str} {i : Nat} {a : Str} (h0 : ¬ x.length = 0) (h : (partsOf x)[i]? = some a) (ha : wordS a = false) (hb : ∀ (j : Nat) (b : Str), j < i → (partsOf x)[j]? = some b → wordS b = true) : heardV (.str x) = .inr i := by
  show heardS x = .inr i
  unfold heardS
  rw [if_neg h0, findIdx_some h (by rw [ha]; rfl) fun j b hj hjb => by rw [hb j b hj hjb]; rfl]
theorem heard_all {x : Str} (h0 : ¬ x.length = 0) (hb : ∀ (j : Nat) (b : Str), (partsOf x)[j]? = some b → wordS b = true) : heardV (.str x) = .inl (partsOf x) := by
  show heardS x = .inl (partsOf x)
  unfold heardS
  rw [if_neg h0, findIdx_none fun j b hjb => by rw [hb j b hjb]; rfl]
theorem map_at {α β : Type} {f : α → β} {l : List α} {i : Nat} {b : β} (h : (l.map f)[i]? = some b) : ∃ a, l[i]? = some a ∧ b = f a := by
  rw [List.getElem?_map] at h
  cases e : l[i]? with
  | none => rw [e] at h; cases h
  | some a => rw [e] at h; exact ⟨a, rfl, (Option.some.inj h).symm⟩

/-! ### texts put together -/
theorem joinL_nil : ∀ ls : List (List Nat), joinL [] ls = ls.flatten
  | [] => rfl
  | [p] => by simp [joinL]
  | p :: q :: r => by
    have ih := joinL_nil (q :: r)
    show p ++ ([] ++ joinL [] (q :: r)) = _
    rw [ih]
    simp
def nothing : Str := Str.ofString ""
theorem tl_nothing : tl nothing = [] := by decide +kernel
theorem tl_glue (ys : List Str) : tl (Txt.join nothing ys) = (ys.map tl).flatten := by
  rw [join_eq, tl_join, tl_nothing, joinL_nil]
/-- signs that are plain and no blank -/
def clean (x : Str) : Bool := (tl x).all fun c => decide (c < 128) && decide (c ≠ 32)
theorem clean_glue {ys : List Str} (h : ∀ y ∈ ys, clean y = true) : clean (Txt.join nothing ys) = true := by
  unfold clean
  rw [tl_glue, List.all_eq_true]
  intro c hc
  obtain ⟨l, hl, hc⟩ := List.mem_flatten.mp hc
  obtain ⟨y, hy, rfl⟩ := List.mem_map.mp hl
  have := h y hy
  unfold clean at this
  rw [List.all_eq_true] at this
  exact this c hc
theorem sum_le {l : List Nat} {m : Nat} (h : ∀ x ∈ l, x ≤ m) : l.sum ≤ l.length * m := by
  induction l with
  | nil => simp
  | cons a r ih =>
    have h1 := h a List.mem_cons_self
    have h2 := ih fun x hx => h x (List.mem_cons_of_mem _ hx)
    simp only [List.sum_cons, List.length_cons, Nat.succ_mul]
    omega
theorem glue_len {ys : List Str} : (Txt.join nothing ys).length = (ys.map (·.length)).sum := by
  rw [len_tl, tl_glue, List.length_flatten, List.map_map]
  exact congrArg List.sum (List.map_congr_left fun y _ => (len_tl y).symm)
theorem clean_txt {x : Str} (h : clean x = true) : txt x = true := by
  unfold clean at h
  unfold txt
  rw [← Array.all_toList]
  rw [List.all_eq_true] at h ⊢
  intro c hc
  have := h c hc
  simp at this ⊢
  omega
theorem clean_blank {x : Str} (h : clean x = true) : 32 ∉ tl x := fun hm => by
  unfold clean at h
  rw [List.all_eq_true] at h
  have := h 32 hm
  simp at this

section
variable {X : Cx}
/-- x in a tuple of data -/
def rInT (K : PySem.W.Frag) : R2 := fun x y G Q => ∃ d ds, Dp K G x d ∧ Dp K G y (.tuple ds) ∧ SeqAt.shaped d = true ∧ SeqAt.shaped (.tuple ds) = true ∧ Q (.bl (ds.any fun z => PyData.eqv z d)) G
theorem op_inT (hu : X.A.units + 65 < cLine) : OpR X (compareOp .In) (rInT X.K) := by
  rintro pins s σ G x y v u Q I rx ry ⟨d, ds, hd, he, sd, se, q⟩
  obtain ⟨as, r1⟩ := Dp.reads I d x v hd rx
  obtain ⟨bs, r2⟩ := Dp.reads I (.tuple ds) y u he ry
  exact SeqAt.in_tuple_reads r2 r1 (SeqAt.canLay_of_shaped se) (SeqAt.canLay_of_shaped sd) (room_in_shaped sd hu) ⟨.bl _, G, I, rfl, q⟩
end
theorem word_clean {x : Str} (h : wordS x = true) : clean x = true := by
  unfold wordS lettersS at h
  have h2 := (Bool.and_eq_true_iff.mp h).2
  unfold clean
  rw [List.all_eq_true] at h2 ⊢
  intro c hc
  have := h2 c hc
  unfold ltr at this
  simp at this ⊢
  omega
/-- what is heard, as data -/
def heardD (v : V) : PyData := match heardV v with
  | .inl ps => .tuple [.str (Str.ofString "told"), .tuple (ps.map PyData.str)]
  | .inr i => .tuple [.str (Str.ofString "index"), .int (i : Int)]
def spHeard (K : PySem.W.Frag) : Sp := fun vs G Q _ => ∃ (v : V), vs = [v] ∧ Known K G v ∧ ∀ (q : Addr) (G' : Hp), Same G G' → Dp K G' (.ref q) (heardD v) → Q (.ref q) G'

/-- the first one, from those that are found -/
theorem first_of {α : Type} {q : α → Bool} {z : α} {xs : List α} : ∀ (cs : List Nat), cs = (List.range xs.length).filter (fun k => q (xs.getD k z)) → xs.findIdx? q = cs[0]?
  | [], h => by
    refine findIdx_none fun j b hb => ?_
    cases e : q b with
    | false => rfl
    | true =>
      have hj := (List.getElem?_eq_some_iff.mp hb).1
      have : j ∈ (List.range xs.length).filter (fun k => q (xs.getD k z)) := List.mem_filter.mpr ⟨List.mem_range.mpr hj, by rw [List.getD_eq_getElem?_getD, hb]; exact e⟩
      rw [← h] at this
      cases this
  | k :: r, h => by
    have hk : k ∈ (List.range xs.length).filter (fun k => q (xs.getD k z)) := by
      rw [← h]
      exact List.mem_cons_self
    obtain ⟨h1, h2⟩ := List.mem_filter.mp hk
    have h1 := List.mem_range.mp h1
    have hp : (k :: r).Pairwise (· < ·) := by
      rw [h]
      exact List.Pairwise.filter _ List.pairwise_lt_range
    refine findIdx_some (List.getElem?_eq_getElem h1) (by simpa [List.getD_eq_getElem?_getD, List.getElem?_eq_getElem h1] using h2) fun j b hj hb => ?_
    cases e : q b with
    | false => rfl
    | true =>
      have hjl := (List.getElem?_eq_some_iff.mp hb).1
      have : j ∈ k :: r := by
        rw [h]
        exact List.mem_filter.mpr ⟨List.mem_range.mpr hjl, by rw [List.getD_eq_getElem?_getD, hb]; exact e⟩
      rcases List.mem_cons.mp this with e | e
      · omega
      · have := (List.pairwise_cons.mp hp).1 j e
        omega
def told (ps : List Str) : PyData := .tuple [.str (Str.ofString "told"), .tuple (ps.map PyData.str)]
def atIx (i : Nat) : PyData := .tuple [.str (Str.ofString "index"), .int (i : Int)]
/-- what is due of parts -/
def dueD (ys : List Str) : PyData := if ys = [] ∨ ys = [nothing] then told [] else match ys.findIdx? (fun p => !wordS p) with
  | none => told ys
  | some i => atIx i
def spDue (K : PySem.W.Frag) : Sp := fun vs G Q _ => ∃ (a : Addr) (ys : List Str), vs = [.ref a] ∧ SqL K G a (ys.map V.str) ∧ (∀ y ∈ ys, clean y = true ∧ y.length ≤ 1000) ∧ ys.length ≤ 1000 ∧ ∀ (q : Addr) (G' : Hp), Same G G' → Dp K G' (.ref q) (dueD ys) → Q (.ref q) G'
theorem in_two (ys : List Str) : ([PyData.list [], .list [.str nothing]].any fun z => PyData.eqv z (.list (ys.map PyData.str))) = decide (ys = [] ∨ ys = [nothing]) := by
  cases ys with
  | nil => rfl
  | cons y r =>
    cases r with
    | nil =>
      show (false || ((nothing == y) && true || false)) = decide ([y] = [] ∨ [y] = [nothing])
      by_cases h : y = nothing
      · subst h
        simp
      · have h' : ¬ nothing = y := fun z => h z.symm
        simp [h, h']
    | cons z r =>
      show (false || ((nothing == y) && false || false)) = decide (y :: z :: r = [] ∨ y :: z :: r = [nothing])
      simp
end Qh
set_option Elab.async false
set_option linter.all false
set_option maxRecDepth 100000
set_option maxHeartbeats 4000000
/-! Words looked at together: the parts of a text put together again without blanks. -/
namespace Qh
open PySem PySem.Spec PyProof.Rows L2 TL
theorem spl_sum (S : List Nat) : ∀ (l : List Nat) (k : Nat) (acc : List Nat), ((spl S k acc l).map (·.length)).sum ≤ acc.length + l.length ∧ 0 < (spl S k acc l).length
  | [], k, acc => by
    rw [spl_nil]
    simp
  | c :: r, 0, acc => by
    by_cases h : pre S (c :: r) = true
    · rw [spl_hit h]
      have ih := spl_sum S r (S.length - 1) []
      simp only [List.map_cons, List.sum_cons, List.length_cons, List.length_nil] at ih ⊢
      omega
    · rw [spl_miss (by simpa using h)]
      have ih := spl_sum S r 0 (acc ++ [c])
      simp only [List.length_append, List.length_cons, List.length_nil] at ih ⊢
      omega
  | c :: r, k + 1, acc => by
    have ih := spl_sum S r k acc
    have e : spl S (k + 1) acc (c :: r) = spl S k acc r := rfl
    rw [e]
    simp only [List.length_cons] at ih ⊢
    omega
theorem parts_sum (x : Str) : ((partsOf x).map (·.length)).sum ≤ x.length := by
  have h := (spl_sum [32] (tl x) 0 []).1
  rw [← parts_spl, List.map_map, ← len_tl] at h
  have e : (partsOf x).map ((fun l : List Nat => l.length) ∘ tl) = (partsOf x).map (·.length) := by
    refine List.map_congr_left fun p _ => ?_
    exact (len_tl p).symm
  rw [e] at h
  simpa using h
theorem parts_pos (x : Str) : 0 < (partsOf x).length := by
  have h := (spl_sum [32] (tl x) 0 []).2
  rw [← parts_spl, List.length_map] at h
  exact h
theorem word_of {p : Str} (h1 : 1 ≤ p.length) (h2 : p.length ≤ 10) (h3 : (tl p).all ltr = true) : wordS p = true := by
  show lettersS p 10 = true
  unfold lettersS
  have a : decide (1 ≤ (p.length : Int)) = true := decide_eq_true (by omega)
  have b : decide ((p.length : Int) ≤ 10) = true := decide_eq_true (by omega)
  rw [a, b]
  exact h3
theorem words_glue {ps : List Str} {n : Int} (h0 : ∀ p ∈ ps, 1 ≤ p.length ∧ p.length ≤ 10) (hj : lettersS (Txt.join nothing ps) n = true) : ∀ p ∈ ps, wordS p = true := by
  intro p hp
  have hl : (tl (Txt.join nothing ps)).all ltr = true := by
    unfold lettersS at hj
    exact (Bool.and_eq_true_iff.mp hj).2
  rw [tl_glue, List.all_eq_true] at hl
  refine word_of (h0 p hp).1 (h0 p hp).2 ?_
  rw [List.all_eq_true]
  exact fun c hc => hl c (List.mem_flatten.mpr ⟨tl p, List.mem_map_of_mem hp, hc⟩)
end Qh
set_option Elab.async false
set_option linter.all false
set_option maxRecDepth 100000
set_option maxHeartbeats 4000000
namespace K02
open PySem PySem.Spec PyProof.Rows L2 TL Qh
abbrev sErrInit : Stmt := inClass (top 2) 0
abbrev sWordsOf : Stmt := top 7
abbrev sTextOf : Stmt := top 8
section
variable {P : Program} {w : World} {K : PySem.W.Frag} {mg : Str → Option Value} {base : Heap}
theorem scErrInit : FnScope ["self", "index"] ["self", "index"] (defScope sErrInit) := ⟨rfl, rfl, rfl, by decide +kernel, rfl, by decide +kernel, by decide +kernel⟩
theorem ok_errInit {C f : Addr} {fd : FuncData} (F : Fun K "__init__" "InvalidText.__init__" sErrInit f fd) (T : OexC K C) (hno : PySem.W.findIn K (.ref C) "index" = some none) : FnOk P w K mg base (L2.CX P w) 1 f fd ["self", "index"] (spErr1 C "index") := by
  refine F.okX scErrInit (fun vs G Q E h => ?_) (fun cdv A out t G vs Q E hr h => ?_)
  · obtain ⟨a, v, rfl, _⟩ := h
    rfl
  · obtain ⟨a, v, rfl, ha, k⟩ := h
    refine ⟨_, pss_one (ps_ost (pv 0) (pv 1)), ?_⟩
    exact ⟨_, rfl, _, rfl, a, C, rfl, T, hno, .inl ⟨ha, fun dx hd da => k dx hd da⟩⟩
theorem scWordsOf : FnScope ["text", "parts", "sizes", "part", "index"] ["text"] (defScope sWordsOf) := ⟨rfl, rfl, rfl, by decide +kernel, rfl, by decide +kernel, by decide +kernel⟩
theorem ok_wordsOf {C : Addr} (D : DefIn K mg "words_of" sWordsOf) (B : Blt mg) (hM : ∃ t, mg "MOST_LETTERS" = some (.int 10 t)) (T : Err1 P w K mg base "InvalidText" "index" C) (F_is_letters : Ok P w K mg base "is_letters" (defArgs sLetters) ["value", "most"] 1 (spLetters K)) (F_is_word : Ok P w K mg base "is_word" (defArgs sIsWord) ["value"] 2 (spIsWord K)) : Ok P w K mg base "words_of" (defArgs sWordsOf) ["text"] 3 (spWordsOf K C) := by
  refine D.ok scWordsOf (fun vs G Q E h => ?_) (fun _ _ _ _ _ _ us hl => match us, hl with | [_], _ => rfl) (fun f cdv A out t G vs Q E hr h => ?_)
  · obtain ⟨v, rfl, _⟩ := h
    rfl
  · obtain ⟨v, rfl, hv, k1, k2⟩ := h
    obtain ⟨tk, hM⟩ := hM
    refine ⟨_, (pss_cons (ps_if (pt_not (pt_val (pe_callB call_isi (by rfl) B.n_isinstance bt_isinstance (pa_cons (pv 0) (pa_cons (pe_bltn (v := .ty "str") (by rfl) B.n_str bt_str rfl) pa_nil))))) (pss_one (ps_raise rfl (takes_of rfl rfl rfl rfl) (pmk_err1 T hr pe_int))) pss_nil)
      (pss_cons (ps_if (pt_cmpR op_eq (pv 0) pe_str (nomark _)) (pss_one (ps_ret (pe_tup pa_nil))) pss_nil)
      (pss_cons (ps_set (i := 1) scWordsOf.nd rfl (by first | exact Or.inl rfl | exact Or.inr rfl) (pe_bm PySem.F.plainAttrs_str PySem.F.slot_str_split PySem.F.type_str_split mt_split (pv 0) (pa_cons pe_str pa_nil)))
      (pss_cons (ps_setLc (i := 2) (own := [("part", 3)]) (tt := tYes) rfl scWordsOf.nd rfl rfl (sw_true rfl rfl rfl (by decide +kernel)) (pi_list (pv 1)) (blkOk_by (N := ["text", "parts", "sizes", "part", "index"]) (sc := defScope sWordsOf) (by decide +kernel)) (fun _ _ _ _ _ => pg_name (i := 3) scWordsOf.nd rfl (by first | exact Or.inl rfl | exact Or.inr rfl)) (fun _ _ _ _ _ => pts_nil) (fun _ _ _ _ _ => (pe_callB (r := fun xs H Q => ∃ x n, xs = [x] ∧ LenV K x H n ∧ Q (V.int (n : Nat)) H) call_len (by rfl) B.n_len bt_len (pa_cons (pv 3) pa_nil))))
      (pss_cons (ps_if (PW.pt (pw_or (pt_cmpR op_eq (pe_callB (cr_min rfl) (by rfl) B.n_min bt_min (pa_cons (pv 2) pa_nil)) pe_int (nomark _)) (pw_or (pt_cmpR op_gt (pe_callB (cr_max rfl) (by rfl) B.n_max bt_max (pa_cons (pv 2) pa_nil)) (pe_glob (v := .int 10) rfl hM ⟨_, rfl⟩) (nomark _)) (pw_or1 (pt_not (pt_val (pe_own F_is_letters (hr.mono (by decide)) takes0 (pa_cons (pe_bm PySem.F.plainAttrs_str PySem.F.slot_str_join PySem.F.type_str_join mt_join pe_str (pa_cons (pv 1) pa_nil)) (pa_cons (pe_callB call_len (by rfl) B.n_len bt_len (pa_cons (pv 0) pa_nil)) pa_nil)))))))))
        (pss_one (ps_for (passes_of rfl) rfl (pi_enum (by rfl) B.n_enumerate (pa_cons (pv 1) pa_nil)) (pg_tup rfl (pgs_cons (pg_name (i := 4) scWordsOf.nd rfl (by first | exact Or.inl rfl | exact Or.inr rfl)) (pgs_cons (pg_name (i := 3) scWordsOf.nd rfl (by first | exact Or.inl rfl | exact Or.inr rfl)) pgs_nil)))
        (pss_one (ps_if (pt_not (pt_val (pe_own F_is_word hr takes0 (pa_cons (pv 3) pa_nil)))) (pss_one (ps_raise rfl (takes_of rfl rfl rfl rfl) (pmk_err1 T hr (pv 4)))) pss_nil)))) pss_nil)
      (pss_one (ps_ret (pe_callTy call_tuple_of (by rfl) B.n_tuple bt_tuple (pa_cons (pv 1) pa_nil))))))))), ?_⟩
    rcases hv with ⟨x, rfl, hx⟩ | ⟨hno, ty, hty, hk⟩
    · refine ⟨_, rfl, _, _, _, _, _, rfl, .ty _, .base (.str x), kit_ty (r := true) (by decide +kernel), _, rfl, ?_⟩
      refine ⟨_, rfl, rfl, _, rfl, ?_⟩
      refine ite2 (fun h0 => ?_) (fun h0 => ?_)
      · have h0 : x = Str.ofString "" := V.str.inj (of_decide_eq_true h0)
        refine ⟨by show 0 ≤ sizeLine; decide, fun q hq => k1 [] ?_ q _ hq (Qh.Same.new hq) upd_same⟩
        rw [h0]
        rfl
      · have h0 : ¬ x.length = 0 := fun z => h0 (decide_eq_true (congrArg V.str (ext_tl (by rw [(len0_tl x).mp z]; rfl))))
        refine ⟨_, rfl, rfl, x, blank, rfl, rfl, by decide +kernel, by have := sizeLine_eq; omega, fun q hq => ?_⟩
        refine ⟨_, rfl, q, rfl, ⟨_, SqL.of upd_same⟩, fun D hD => ?_⟩
        have hcount := parts_count x
        refine lc_list (fun i G' => Same G G' ∧ G' q = some (.lst ((partsOf x).map V.str)) ∧ G' D = some (.lst ((((partsOf x).take i).map fun p => (p.length : Int)).map V.int)))
          ⟨(Qh.Same.new hq).trans (Qh.Same.new hD), by rw [upd_ne (ne_of_none upd_same hD)]; exact upd_same, upd_same⟩ (fun i G' _ ⟨_, hl, _⟩ => SqL.of hl) ?_ ?_
        · rintro i v G1 hi ⟨sm, hl, hd⟩
          obtain ⟨p, hp, rfl⟩ := map_at hi
          have hpl : p.length ≤ 1000000 := Nat.le_trans (parts_len (List.mem_of_getElem? hp)) hx
          refine ⟨rfl, ?_⟩
          refine ⟨_, rfl, .str p, p.length, rfl, ⟨big_line hpl, rfl⟩, _, hd, ?_, ?_⟩
          · rw [List.length_map, List.length_map, List.length_take]
            exact Nat.lt_of_le_of_lt (show _ ≤ 1000001 by omega) (by decide)
          · have hDq : D ≠ q := fun e => by
              rw [e, upd_same] at hD
              cases hD
            have hDG : G D = none := by
              rw [upd_ne hDq] at hD
              exact hD
            refine ⟨Qh.Same.fresh sm hDG, by rw [upd_ne hDq.symm]; exact hl, ?_⟩
            rw [upd_same, take_get hp, List.map_append, List.map_append]
            rfl
        · rintro G1 ⟨sm1, hl1, hd1⟩
          rw [List.length_map, List.take_length] at hd1
          have hpos := parts_pos x
          -- what the loop tells, wherever it begins
          have hne : 0 < (((partsOf x).map fun p => (p.length : Int))).length := by
            rw [List.length_map]
            exact hpos
          refine ⟨_, rfl, D, _, rfl, SqL.of hd1, hne, fun m hm hmin => ⟨rfl, _, rfl, ?_⟩⟩
          refine ite2 (fun _ => ?loop1) (fun h1 => ?next1)
          case' next1 =>
            refine ⟨_, rfl, D, _, rfl, SqL.of hd1, hne, fun mx hmx hmax => ⟨_, _, rfl, rfl, _, rfl, ?_⟩⟩
            refine ite2 (fun _ => ?loop2) (fun h2 => ?next2)
          case' next2 =>
            have hsum := parts_sum x
            refine ⟨rfl, _, rfl, nothing, q, partsOf x, rfl, rfl, .inl (SqL.of hl1), ?size, _, rfl, .str x, x.length, rfl, ⟨big_line hx, rfl⟩, .str (Txt.join nothing (partsOf x)), (x.length : Int), rfl, .inl ⟨_, rfl, ?small⟩, fun G2 sm2 => ⟨_, rfl, ?_⟩⟩
            case' size =>
              have e0 : nothing.length = 0 := by decide +kernel
              rw [e0]
              omega
            case' small =>
              rw [glue_len]
              omega
            refine ite2 (fun _ => ?loop3) (fun h3 => ?words)
          case words =>
            have h1 : m ≠ 0 := fun e => h1 (decide_eq_true (by rw [e]))
            have h2 : mx ≤ 10 := by
              have : ¬ mx > 10 := fun z => h2 (decide_eq_true z)
              omega
            have h3 : lettersS (Txt.join nothing (partsOf x)) (x.length : Int) = true := by
              have h3 : ¬ (!lettersS (Txt.join nothing (partsOf x)) (x.length : Int)) = true := h3
              simpa using h3
            have hw := words_glue (fun p hp => by
              have a := hmin (p.length : Int) (List.mem_map_of_mem hp)
              have b := hmax (p.length : Int) (List.mem_map_of_mem hp)
              have c : 0 ≤ m := by
                obtain ⟨p', _, e⟩ := List.mem_map.mp hm
                rw [← e]
                exact Int.natCast_nonneg _
              omega) h3
            refine ⟨_, rfl, q, _, rfl, .inl ⟨SqL.of (sm2 _ _ hl1), fun l hlq => ?_⟩⟩
            have sm := sm1.trans sm2
            exact k1 (partsOf x) (heard_all h0 fun j b hjb => hw b (List.mem_of_getElem? hjb)) l _ (sm.free hlq) (sm.trans (Qh.Same.new hlq)) upd_same
          case' loop1 => have sm2 := Same.refl G1
          case' loop2 => have sm2 := Same.refl G1
          all_goals
            have sm := sm1.trans sm2
            have hl := sm2 _ _ hl1
            refine ⟨_, rfl, q, _, rfl, SqL.of hl, for_it walk_enum (fun i σ' G' => ∃ o1 o2, σ' = [some (.str x), some (.ref q), some (.ref D), o1, o2] ∧ Same G G' ∧ G' q = some (.lst ((partsOf x).map V.str)) ∧ ∀ j p, j < i → (partsOf x)[j]? = some p → wordS p = true)
              ⟨none, none, rfl, sm, hl, fun j p hj _ => absurd hj (Nat.not_lt_zero j)⟩ (fun i σ' G' _ ⟨_, _, _, _, hl, _⟩ => SqL.of hl) ?_ ?_⟩
            · rintro i y σ1 G1 G2 hi ⟨o1, o2, rfl, sm, hl, hw⟩ ⟨Tp, a, b, rfl, hT, rfl, ea, eb⟩
              obtain rfl : a = V.int (i : Int) := (Option.some.inj ea).symm
              obtain ⟨p, hp, rfl⟩ := map_at eb
              have hpl : p.length ≤ 1000000 := Nat.le_trans (parts_len (List.mem_of_getElem? hp)) hx
              refine ⟨Tp, _, rfl, SqT.of upd_same, rfl, _, _, rfl, _, _, rfl, rfl, ?_⟩
              refine ⟨_, rfl, .str p, rfl, .inl ⟨p, rfl, hpl⟩, fun G3 sm3 => ⟨_, rfl, ?_⟩⟩
              have smT : Same G (upd G1 Tp (.tup [V.int (i : Int), V.str p])) := Qh.Same.fresh sm (sm.free hT)
              have sm' : Same G G3 := smT.trans sm3
              have hl' : G3 q = some (.lst ((partsOf x).map V.str)) := sm3 _ _ (by rw [upd_ne (ne_of_none hl hT)]; exact hl)
              cases e : wordS p with
              | true =>
                rw [show wordV (.str p) = true from e]
                refine ⟨_, _, rfl, sm', hl', fun j b hj hjb => ?_⟩
                by_cases hji : j = i
                · subst hji
                  rw [hp] at hjb
                  rw [← Option.some.inj hjb]
                  exact e
                · exact hw j b (by omega) hjb
              | false =>
                rw [show wordV (.str p) = false from e]
                refine ⟨_, rfl, ?_⟩
                exact err1_end (Q := fun cls d G' => E cls d G') fun d hd => k2 i (heard_at h0 hp e fun j b hj hjb => hw j b hj hjb) d _ (sm'.free hd) (sm'.trans (Qh.Same.new hd)) upd_same
            · rintro σ1 G1 ⟨o1, o2, rfl, sm, hl, hw⟩
              refine ⟨_, rfl, q, _, rfl, .inl ⟨SqL.of hl, fun l hlq => ?_⟩⟩
              refine k1 (partsOf x) (heard_all h0 fun j b hjb => hw j b ?_ hjb) l _ (sm.free hlq) (sm.trans (Qh.Same.new hlq)) upd_same
              have := (List.getElem?_eq_some_iff.mp hjb).1
              rw [List.length_map]
              exact this
    · refine ⟨_, rfl, _, _, _, _, _, rfl, .ty _, hty, hk, _, rfl, ?_⟩
      exact err1_end (Q := fun cls d G' => E cls d G') fun d hd => k2 0 (heardV_other hno) d _ hd (Qh.Same.new hd) upd_same
theorem scTextOf : FnScope ["words"] ["words"] (defScope sTextOf) := ⟨rfl, rfl, rfl, by decide +kernel, rfl, by decide +kernel, by decide +kernel⟩
theorem ok_textOf (D : DefIn K mg "text_of" sTextOf) : Ok P w K mg base "text_of" (defArgs sTextOf) ["words"] 1 (spTextOf K) := by
  refine D.ok scTextOf (fun vs G Q E h => ?_) (fun _ _ _ _ _ _ us hl => match us, hl with | [_], _ => rfl) (fun f cdv A out t G vs Q E hr h => ?_)
  · obtain ⟨a, ys, rfl, _⟩ := h
    rfl
  · obtain ⟨a, ys, rfl, hs, hz, k⟩ := h
    refine ⟨_, (pss_one (ps_ret (pe_bm PySem.F.plainAttrs_str PySem.F.slot_str_join PySem.F.type_str_join mt_join pe_str (pa_cons (pv 0) pa_nil)))), ?_⟩
    refine ⟨rfl, _, rfl, blank, a, ys, rfl, rfl, hs, ?_, k⟩
    have : blank.length = 1 := by decide +kernel
    rw [this]
    omega
end
end K02
set_option Elab.async false
set_option linter.all false
set_option maxRecDepth 100000
set_option maxHeartbeats 4000000
namespace K02
open PySem PySem.Spec PyProof.Rows L2 TL Qh
abbrev sString : Stmt := top 13
def sign (v : V) : Bool := match v with
  | .str x => clean x && decide (x.length = 1)
  | _ => false
def signB (v : V) : Prop := ∃ x, v = .str x ∧ clean x = true ∧ x.length = 1
theorem sign_of {v : V} (h : sign v = true) : signB v := by
  cases v with
  | str x =>
    have h := Bool.and_eq_true_iff.mp h
    exact ⟨x, rfl, h.1, of_decide_eq_true h.2⟩
  | _ => cases h
theorem signs_of {xs : List V} (h : xs.all sign = true) : ∀ v ∈ xs, signB v := fun v hv => sign_of (List.all_eq_true.mp h v hv)
/-- a clean text of at most n signs, k cells read -/
def spClean (n k : Nat) : Sp := fun vs G Q _ => ∃ (p l : Addr) (c : Int), vs = [.ref p] ∧ Pen G p l c ∧ c ≤ 900000 ∧ ∀ (x : Str) (G' : Hp), clean x = true → x.length ≤ n → Kp p G G' → Pen G' p l (c + k) → Q (.str x) G'
section
variable {P : Program} {w : World} {K : PySem.W.Frag} {mg : Str → Option Value} {base : Heap}
theorem scString : FnScope ["_law_pen_here", "_law_few", "_law_signs", "_law_k"] ["_law_pen_here"] (defScope sString) := ⟨rfl, rfl, rfl, by decide +kernel, rfl, by decide +kernel, by decide +kernel⟩
theorem ok_string (D : DefIn K mg "_law_string" sString) (B : Blt mg) (F__law_draw : Ok P w K mg base "_law_draw" (defArgs sDraw) ["_law_pen_here", "_law_many"] 1 spDraw)
    (F__law_pick : Ok P w K mg base "_law_pick" (defArgs sPick) ["_law_pen_here", "_law_some"] 2 (spPick K)) : Ok P w K mg base "_law_string" (defArgs sString) ["_law_pen_here"] 3 (spClean 12 14) := by
  refine D.ok scString (fun vs G Q E h => ?_) (fun _ _ _ _ _ _ us hl => match us, hl with | [_], _ => rfl) (fun f cdv A out t G vs Q E hr h => ?_)
  · obtain ⟨p, l, c, rfl, _⟩ := h
    rfl
  · obtain ⟨p, l, c, rfl, hP, hc, k⟩ := h
    refine ⟨_, (pss_cons (ps_set (i := 1) scString.nd rfl (by first | exact Or.inl rfl | exact Or.inr rfl) (pe_lst (pa_cons pe_str (pa_cons pe_str (pa_cons pe_str (pa_cons pe_str (pa_cons pe_str (pa_cons pe_str pa_nil))))))))
      (pss_cons (ps_set (i := 2) scString.nd rfl (by first | exact Or.inl rfl | exact Or.inr rfl) (pe_op op_cat (pv 1) (pe_lst (pa_cons (pe_own F__law_pick (hr.mono (by decide)) takes0 (pa_cons (pv 0) (pa_cons (pe_lst (pa_cons pe_str (pa_cons pe_str (pa_cons pe_str (pa_cons pe_str (pa_cons pe_str (pa_cons pe_str (pa_cons pe_str (pa_cons pe_str (pa_cons pe_str (pa_cons pe_str (pa_cons pe_str (pa_cons pe_str (pa_cons pe_str pa_nil)))))))))))))) pa_nil))) pa_nil))))
      (pss_one (ps_ret (pe_bm PySem.F.plainAttrs_str PySem.F.slot_str_join PySem.F.type_str_join mt_join pe_str (pa_cons (pe_lc (own := [("_law_k", 3)]) (tt := tYes) rfl scString.nd (pi_range1 (by rfl) B.n_range (pa_cons (pe_own F__law_draw (hr.mono (by decide)) takes0 (pa_cons (pv 0) (pa_cons pe_int pa_nil))) pa_nil)) (blkOk_by (N := ["_law_pen_here", "_law_few", "_law_signs", "_law_k"]) (sc := defScope sString) (by decide +kernel)) (fun _ _ _ _ _ => pg_name (i := 3) scString.nd rfl (by first | exact Or.inl rfl | exact Or.inr rfl)) (fun _ _ _ _ _ => pts_nil) (fun _ _ _ _ _ => (pe_own F__law_pick (hr.mono (by decide)) takes0 (pa_cons (pv 0) (pa_cons (pv 2) pa_nil))))) pa_nil)))))), ?_⟩
    -- few
    refine ⟨by show 6 ≤ sizeLine; decide, fun a ha => ?_⟩
    -- signs
    refine ⟨_, rfl, _, rfl, by show 13 ≤ sizeLine; decide, fun b hb => ?_⟩
    refine ⟨p, l, b, c, _, rfl, (hP.new ha).new hb, by omega, Pen.ne (hP.new ha) hb, SqL.of upd_same, by show 0 < 13; decide, by show 13 ≤ 1000000; decide, fun x G1 hx kp1 P2 => ?_⟩
    have hx' : signB x := signs_of (by decide +kernel) x hx
    clear hx
    have pa : a ≠ p := Pen.ne hP ha
    have pb : b ≠ p := Pen.ne (hP.new ha) hb
    have nb : G b = none := by
      have : b ≠ a := fun e => by rw [e, upd_same] at hb; cases hb
      rw [upd_ne this] at hb
      exact hb
    have kpG : Kp p G G1 := ((Kp.new ha).trans (Kp.new hb)).trans kp1
    have ha1 := kp1 a _ pa (by rw [upd_ne (show a ≠ b from fun e => by rw [← e, upd_same] at hb; cases hb)]; exact upd_same)
    refine ⟨by show 1 ≤ sizeLine; decide, fun q hq => ?_⟩
    refine ⟨a, q, _, _, rfl, rfl, by rw [upd_ne (ne_of_none ha1 hq)]; exact ha1, upd_same, by show 6 + 1 ≤ sizeLine; decide, fun sg hsg => ?_⟩
    -- the signs stand at sg
    have qp : q ≠ p := P2.ne hq
    have sgp : sg ≠ p := Pen.ne (P2.new hq) hsg
    have P3 := (P2.new (o := HO.lst [x]) hq).new (o := HO.lst ([.str (Str.ofString "a"), .str (Str.ofString "b"), .str (Str.ofString "e"), .str (Str.ofString "m"), .str (Str.ofString "y"), .str (Str.ofString "z")] ++ [x])) hsg
    have nq : G q = none := kpG.free qp hq
    have nsg : G sg = none := by
      have : sg ≠ q := fun e => by rw [e, upd_same] at hsg; cases hsg
      rw [upd_ne this] at hsg
      exact kpG.free sgp hsg
    have kp3 : Kp p G (upd (upd G1 q (HO.lst [x])) sg (HO.lst ([.str (Str.ofString "a"), .str (Str.ofString "b"), .str (Str.ofString "e"), .str (Str.ofString "m"), .str (Str.ofString "y"), .str (Str.ofString "z")] ++ [x]))) := (kpG.fresh nq).fresh nsg
    have hs3 : (upd (upd G1 q (HO.lst [x])) sg (HO.lst ([.str (Str.ofString "a"), .str (Str.ofString "b"), .str (Str.ofString "e"), .str (Str.ofString "m"), .str (Str.ofString "y"), .str (Str.ofString "z")] ++ [x]))) sg = some (.lst ([.str (Str.ofString "a"), .str (Str.ofString "b"), .str (Str.ofString "e"), .str (Str.ofString "m"), .str (Str.ofString "y"), .str (Str.ofString "z")] ++ [x])) := upd_same
    have ok : ∀ v ∈ [.str (Str.ofString "a"), .str (Str.ofString "b"), .str (Str.ofString "e"), .str (Str.ofString "m"), .str (Str.ofString "y"), .str (Str.ofString "z")] ++ [x], signB v := fun v hv => by
      rcases List.mem_append.mp hv with hv | hv
      · exact signs_of (by decide +kernel) v hv
      · rw [List.mem_singleton.mp hv]
        exact hx'
    generalize upd (upd G1 q _) sg _ = G3 at P3 kp3 hs3 ⊢
    have len7 : ([.str (Str.ofString "a"), .str (Str.ofString "b"), .str (Str.ofString "e"), .str (Str.ofString "m"), .str (Str.ofString "y"), .str (Str.ofString "z")] ++ [x] : List V).length = 7 := rfl
    generalize ([.str (Str.ofString "a"), .str (Str.ofString "b"), .str (Str.ofString "e"), .str (Str.ofString "m"), .str (Str.ofString "y"), .str (Str.ofString "z")] ++ [x] : List V) = ss at hs3 ok len7
    refine ⟨rfl, _, rfl, p, l, c + 1, 13, rfl, P3, by omega, by decide, by decide, fun n G4 n0 n1 kp4 P4 => ?_⟩
    refine ⟨n, rfl, by omega, by omega, fun D hD => ?_⟩
    have Dp : D ≠ p := P4.ne hD
    have hs4 := kp4 sg _ sgp hs3
    have Dsg : sg ≠ D := ne_of_none hs4 hD
    refine lc_range (fun i G' => ∃ ys : List Str, G' D = some (.lst (ys.map V.str)) ∧ ys.length = i ∧ (∀ y ∈ ys, clean y = true ∧ y.length = 1) ∧ Kp p G4 G' ∧ Pen G' p l (c + 2 + i)) ⟨[], upd_same, rfl, fun y hy => (nomatch hy), Kp.new hD, (P4.new hD).mono (by omega)⟩ ?_ ?_
    · rintro i G5 hi ⟨ys, hl, hn, hy, kp5, P5⟩
      refine ⟨rfl, ?_⟩
      refine ⟨_, rfl, _, rfl, p, l, sg, c + 2 + i, ss, rfl, P5, by omega, sgp, SqL.of (kp5 sg _ sgp hs4), by omega, by omega, fun v G6 hv kp6 P6 => ?_⟩
      obtain ⟨y, rfl, cy, ly⟩ := ok v hv
      refine ⟨_, kp6 D _ Dp hl, by rw [List.length_map]; exact big_line' (by omega), ys ++ [y], ?_, by simp [hn], fun z hz => ?_, (kp5.trans kp6).fresh hD, (P6.upd Dp (P4.nel hD)).mono (by omega)⟩
      · rw [upd_same, List.map_append]
        rfl
      · rcases List.mem_append.mp hz with hz | hz
        · exact hy z hz
        · rw [List.mem_singleton.mp hz]
          exact ⟨cy, ly⟩
    · rintro G5 ⟨ys, hl, hn, hy, kp5, P5⟩
      have hlen : (Txt.join nothing ys).length ≤ 12 := by
        rw [glue_len]
        have := sum_le (l := ys.map (·.length)) (m := 1) fun m hm => by
          obtain ⟨y, hy', rfl⟩ := List.mem_map.mp hm
          exact Nat.le_of_eq (hy y hy').2
        rw [List.length_map] at this
        omega
      refine ⟨nothing, D, ys, rfl, rfl, .inl (SqL.of hl), ?_, ?_⟩
      · have := sum_le (l := ys.map (·.length)) (m := 1) fun m hm => by
          obtain ⟨y, hy', rfl⟩ := List.mem_map.mp hm
          exact Nat.le_of_eq (hy y hy').2
        rw [List.length_map] at this
        have e0 : nothing.length = 0 := by decide +kernel
        rw [e0]
        omega
      · exact k _ G5 (clean_glue fun y hy' => (hy y hy').1) hlen ((kp3.trans kp4).trans kp5) (P5.mono (by omega))
end
end K02
set_option Elab.async false
set_option linter.all false
set_option maxRecDepth 100000
set_option maxHeartbeats 4000000
namespace K02
open PySem PySem.Spec PyProof.Rows L2 TL Qh
abbrev sLawIsWord : Stmt := top 14
abbrev sPlain : Stmt := top 15
def letter (v : V) : Bool := match v with
  | .str x => (tl x).all ltr && decide (x.length = 1)
  | _ => false
theorem letters_of {xs : List V} (h : xs.all letter = true) : ∀ v ∈ xs, ∃ x, v = .str x ∧ (tl x).all ltr = true ∧ x.length = 1 := fun v hv => by
  have h := List.all_eq_true.mp h v hv
  cases v with
  | str x =>
    have h := Bool.and_eq_true_iff.mp h
    exact ⟨x, rfl, h.1, of_decide_eq_true h.2⟩
  | _ => cases h
/-- a word, k cells read -/
def spPlain (k : Nat) : Sp := fun vs G Q _ => ∃ (p l : Addr) (c : Int), vs = [.ref p] ∧ Pen G p l c ∧ c ≤ 900000 ∧ ∀ (x : Str) (G' : Hp), wordS x = true → Kp p G G' → Pen G' p l (c + k) → Q (.str x) G'
/-- the law's own look at a word -/
def spLawIsWord (K : PySem.W.Frag) : Sp := fun vs G Q _ => ∃ (v : V), vs = [v] ∧ Known K G v ∧ (∀ x, v = .str x → txt x = true) ∧ ∀ G', Same G G' → Q (.bl (wordV v)) G'
section
variable {P : Program} {w : World} {K : PySem.W.Frag} {mg : Str → Option Value} {base : Heap}
theorem scPlain : FnScope ["_law_pen_here", "_law_k"] ["_law_pen_here"] (defScope sPlain) := ⟨rfl, rfl, rfl, by decide +kernel, rfl, by decide +kernel, by decide +kernel⟩
theorem ok_plain (D : DefIn K mg "_law_plain" sPlain) (B : Blt mg) (F__law_draw : Ok P w K mg base "_law_draw" (defArgs sDraw) ["_law_pen_here", "_law_many"] 1 spDraw)
    (F__law_pick : Ok P w K mg base "_law_pick" (defArgs sPick) ["_law_pen_here", "_law_some"] 2 (spPick K)) : Ok P w K mg base "_law_plain" (defArgs sPlain) ["_law_pen_here"] 3 (spPlain 12) := by
  refine D.ok scPlain (fun vs G Q E h => ?_) (fun _ _ _ _ _ _ us hl => match us, hl with | [_], _ => rfl) (fun f cdv A out t G vs Q E hr h => ?_)
  · obtain ⟨p, l, c, rfl, _⟩ := h
    rfl
  · obtain ⟨p, l, c, rfl, hP, hc, k⟩ := h
    refine ⟨_, (pss_one (ps_ret (pe_bm PySem.F.plainAttrs_str PySem.F.slot_str_join PySem.F.type_str_join mt_join pe_str (pa_cons (pe_lc (own := [("_law_k", 1)]) (tt := tYes) rfl scPlain.nd (pi_range1 (by rfl) B.n_range (pa_cons (pe_op op_add pe_int (pe_own F__law_draw (hr.mono (by decide)) takes0 (pa_cons (pv 0) (pa_cons pe_int pa_nil)))) pa_nil)) (blkOk_by (N := ["_law_pen_here", "_law_k"]) (sc := defScope sPlain) (by decide +kernel)) (fun _ _ _ _ _ => pg_name (i := 1) scPlain.nd rfl (by first | exact Or.inl rfl | exact Or.inr rfl)) (fun _ _ _ _ _ => pts_nil) (fun _ _ _ _ _ => (pe_own F__law_pick (hr.mono (by decide)) takes0 (pa_cons (pv 0) (pa_cons (pe_lst (pa_cons pe_str (pa_cons pe_str (pa_cons pe_str (pa_cons pe_str (pa_cons pe_str pa_nil)))))) pa_nil))))) pa_nil)))), ?_⟩
    refine ⟨rfl, _, rfl, p, l, c, 10, rfl, hP, by omega, by decide, by decide, fun n G4 n0 n1 kp4 P4 => ?_⟩
    refine ⟨_, _, rfl, rfl, 1 + n, rfl, by omega, by omega, fun D hD => ?_⟩
    have Dp : D ≠ p := P4.ne hD
    refine lc_range (fun i G' => ∃ ys : List Str, G' D = some (.lst (ys.map V.str)) ∧ ys.length = i ∧ (∀ y ∈ ys, (tl y).all ltr = true ∧ y.length = 1) ∧ Kp p G4 G' ∧ Pen G' p l (c + 1 + i)) ⟨[], upd_same, rfl, fun y hy => (nomatch hy), Kp.new hD, (P4.new hD).mono (by omega)⟩ ?_ ?_
    · rintro i G5 hi ⟨ys, hl, hn, hy, kp5, P5⟩
      refine ⟨rfl, ?_⟩
      refine ⟨_, rfl, by show 5 ≤ sizeLine; decide, fun sg hsg => ?_⟩
      refine ⟨p, l, sg, c + 1 + i, _, rfl, P5.new hsg, by omega, P5.ne hsg, SqL.of upd_same, by show 0 < 5; decide, by show 5 ≤ 1000000; decide, fun v G6 hv kp6 P6 => ?_⟩
      obtain ⟨y, rfl, cy, ly⟩ := letters_of (by decide +kernel) v hv
      have hl6 := kp6 D _ Dp (by rw [upd_ne (ne_of_none hl hsg)]; exact hl)
      refine ⟨_, hl6, by rw [List.length_map]; exact big_line' (by omega), ys ++ [y], ?_, by simp [hn], fun z hz => ?_, (kp5.trans ((Kp.new hsg).trans kp6)).fresh hD, (P6.upd Dp (P4.nel hD)).mono (by omega)⟩
      · rw [upd_same, List.map_append]
        rfl
      · rcases List.mem_append.mp hz with hz | hz
        · exact hy z hz
        · rw [List.mem_singleton.mp hz]
          exact ⟨cy, ly⟩
    · rintro G5 ⟨ys, hl, hn, hy, kp5, P5⟩
      have hsum : (ys.map (·.length)).sum = ys.length := by
        have : ∀ zs : List Str, (∀ y ∈ zs, y.length = 1) → (zs.map (·.length)).sum = zs.length := by
          intro zs
          induction zs with
          | nil => intro _; rfl
          | cons a r ih =>
            intro h
            simp only [List.map_cons, List.sum_cons, List.length_cons]
            rw [ih fun y hy => h y (List.mem_cons_of_mem _ hy), h a List.mem_cons_self]
            omega
        exact this ys fun y hy' => (hy y hy').2
      have hlen : (Txt.join nothing ys).length = (1 + n).toNat := by
        rw [glue_len, hsum, hn]
      refine ⟨nothing, D, ys, rfl, rfl, .inl (SqL.of hl), ?_, ?_⟩
      · have e0 : nothing.length = 0 := by decide +kernel
        rw [e0, hsum]
        omega
      · refine k _ G5 ?_ (kp4.trans kp5) (P5.mono (by omega))
        unfold wordS lettersS
        have hall : (Txt.join nothing ys).cps.toList.all ltr = true := by
          show (tl (Txt.join nothing ys)).all ltr = true
          rw [tl_glue, List.all_eq_true]
          intro c hc
          obtain ⟨l, hl, hc⟩ := List.mem_flatten.mp hc
          obtain ⟨y, hy', rfl⟩ := List.mem_map.mp hl
          exact List.all_eq_true.mp (hy y hy').1 c hc
        rw [hall, decide_eq_true (show (1 : Int) ≤ ((Txt.join nothing ys).length : Int) by omega), decide_eq_true (show ((Txt.join nothing ys).length : Int) ≤ 10 by omega)]
        rfl
theorem scLawIsWord : FnScope ["_law_thing", "_law_sign"] ["_law_thing"] (defScope sLawIsWord) := ⟨rfl, rfl, rfl, by decide +kernel, rfl, by decide +kernel, by decide +kernel⟩
theorem abc : (Str.ofString "abcdefghijklmnopqrstuvwxyz").cps.toList = List.range' 97 26 := by decide +kernel
theorem abc_in (c : Nat) : decide (c ∈ (Str.ofString "abcdefghijklmnopqrstuvwxyz").cps.toList) = ltr c := by
  have h : c ∈ (Str.ofString "abcdefghijklmnopqrstuvwxyz").cps.toList ↔ 97 ≤ c ∧ c ≤ 122 := by
    rw [abc, List.mem_range'_1]
    omega
  unfold ltr
  by_cases h1 : 97 ≤ c ∧ c ≤ 122
  · rw [decide_eq_true (h.mpr h1), decide_eq_true h1.1, decide_eq_true h1.2]
    rfl
  · rw [decide_eq_false fun z => h1 (h.mp z)]
    by_cases h2 : 97 ≤ c
    · rw [decide_eq_true h2, decide_eq_false fun z => h1 ⟨h2, z⟩]
      rfl
    · rw [decide_eq_false h2]
      rfl
theorem none_left {β : Type} {p : Nat → Bool} {f : Nat → β} (l : List Nat) : decide ((l.filter fun c => !p c).map f = []) = l.all p := by
  induction l with
  | nil => rfl
  | cons a r ih =>
    cases h : p a with
    | true =>
      rw [List.filter_cons, h, List.all_cons, h]
      exact ih
    | false =>
      rw [List.filter_cons, h, List.all_cons, h]
      rfl
theorem ok_lawIsWord (D : DefIn K mg "_law_is_word" sLawIsWord) (B : Blt mg) : Ok P w K mg base "_law_is_word" (defArgs sLawIsWord) ["_law_thing"] 1 (spLawIsWord K) := by
  refine D.ok scLawIsWord (fun vs G Q E h => ?_) (fun _ _ _ _ _ _ us hl => match us, hl with | [_], _ => rfl) (fun f cdv A out t G vs Q E hr h => ?_)
  · obtain ⟨v, rfl, _⟩ := h
    rfl
  · obtain ⟨v, rfl, hv, htx, k⟩ := h
    have hu64 := hr.units
    refine ⟨_, (pss_cons (ps_if (PW.pt (pw_or (pt_not (pt_val (pe_callB call_isi (by rfl) B.n_isinstance bt_isinstance (pa_cons (pv 0) (pa_cons (pe_bltn (v := .ty "str") (by rfl) B.n_str bt_str rfl) pa_nil))))) (pw_or1 (pt_not (pt_chain op_lt op_lt pe_int (pe_callB call_len (by rfl) B.n_len bt_len (pa_cons (pv 0) pa_nil)) pe_int))))) (pss_one (ps_ret pe_bl)) pss_nil)
      (pss_one (ps_ret (pe_cmpR (op_eqD hu64) (pe_lc (own := [("_law_sign", 1)]) (tt := _) rfl scLawIsWord.nd (pi_str (pv 0)) (blkOk_by (N := ["_law_thing", "_law_sign"]) (sc := defScope sLawIsWord) (by decide +kernel)) (fun _ _ _ _ _ => pg_name (i := 1) scLawIsWord.nd rfl (by first | exact Or.inl rfl | exact Or.inr rfl)) (fun _ _ _ _ _ => pts_one (pt_cmpR op_notInS (pv 1) pe_str (by rfl))) (fun _ _ _ _ _ => (pv 1))) (pe_lst pa_nil) (nomark _))))), ?_⟩
    rcases hv with ⟨x, rfl, hx⟩ | ⟨hno, ty, hty, hk⟩
    · refine ⟨_, rfl, _, _, _, _, _, rfl, .ty _, .base (.str x), kit_ty (r := true) (by decide +kernel), _, rfl, ?_⟩
      refine iteF ?_
      refine ⟨_, rfl, .str x, x.length, rfl, ⟨big_line hx, rfl⟩, _, _, rfl, rfl, _, rfl, ?_⟩
      have close : wordV (.str x) = false → (Q (.bl false) G) := fun e => by
        have h := k G (Same.refl G)
        rw [e] at h
        exact h
      refine ite2 (fun h1 => ?_) (fun h1 => ?_)
      · have h1 := of_decide_eq_true h1
        refine ⟨_, _, rfl, rfl, _, rfl, ?_⟩
        refine ite2 (fun h2 => ?_) (fun h2 => ?_)
        · refine close ?_
          have h2 : decide ((x.length : Int) < 11) = false := by simpa using h2
          have h3 : decide ((x.length : Int) ≤ 10) = false := decide_eq_false (by have := of_decide_eq_false h2; omega)
          show lettersS x 10 = false
          unfold lettersS
          rw [h3]
          simp
        · have h2 : (x.length : Int) < 11 := by simpa using h2
          refine ⟨_, rfl, x, rfl, fun D hD => ?_⟩
          refine lc_it walk_str (fun i G' => Same G G' ∧ G' D = some (.lst ((((tl x).take i).filter fun c => !ltr c).map fun c => V.str ⟨#[c]⟩))) ⟨Qh.Same.new hD, by rw [upd_same]; rfl⟩ (fun _ _ _ _ => trivial) ?_ ?_
          · rintro i y G1 G2 hi ⟨sm, hl⟩ ⟨rfl, c, hc, rfl⟩
            have hc' : (tl x)[i]? = some c := by
              rw [← hc]
              simp
            refine ⟨rfl, ?_⟩
            refine ⟨_, rfl, c, _, rfl, rfl, _, rfl, ?_⟩
            rw [abc_in]
            have et := take_get hc'
            cases e : ltr c with
            | true =>
              refine ⟨sm, ?_⟩
              rw [hl, et, List.filter_append, List.filter_cons, e]
              show some (HO.lst (List.map _ _)) = some (HO.lst (List.map _ (_ ++ [])))
              rw [List.append_nil]
            | false =>
              refine ⟨_, rfl, _, hl, ?_, Qh.Same.fresh sm hD, ?_⟩
              · rw [List.length_map]
                have h1 := List.length_filter_le (fun c => !ltr c) ((tl x).take i)
                rw [List.length_take, ← len_tl] at h1
                exact big_line' (by omega)
              · rw [upd_same, et, List.filter_append, List.filter_cons, e, List.map_append]
                rfl
          · rintro G' ⟨sm, hl⟩
            rw [List.take_of_length_le (Nat.le_of_eq (by simp))] at hl
            refine ⟨by show 0 ≤ sizeLine; decide, fun q hq => ?_⟩
            have hl' : (L2.upd G' q (.lst [])) D = some (.lst (((tl x).filter fun c => !ltr c).map fun c => V.str ⟨#[c]⟩)) := by
              rw [upd_ne (ne_of_none hl hq)]
              exact hl
            have ev : ((tl x).filter fun c => !ltr c).map (fun c => V.str ⟨#[c]⟩) = (((tl x).filter fun c => !ltr c).map fun c => (⟨#[c]⟩ : Str)).map V.str := by
              rw [List.map_map]
              rfl
            rw [ev] at hl'
            refine ⟨_, .list [], .lst (SqL.of hl') (dp_strs _), .lst (SqL.of upd_same) .nil, shaped_strsL _ (fun y hy => ?_), rfl, ?_⟩
            · obtain ⟨c, hc, rfl⟩ := List.mem_map.mp hy
              have hcx := (List.mem_filter.mp hc).1
              have ht := htx x rfl
              unfold txt at ht ⊢
              rw [← Array.all_toList, List.all_eq_true] at ht
              have := ht c hcx
              simpa using this
            · rw [eqv_nil_r, List.map_map, none_left]
              have h := k _ (sm.trans (Qh.Same.new (o := HO.lst []) hq))
              have e : wordV (.str x) = (tl x).all ltr := by
                show lettersS x 10 = _
                unfold lettersS
                rw [decide_eq_true (show (1 : Int) ≤ (x.length : Int) by omega), decide_eq_true (show (x.length : Int) ≤ 10 by omega)]
                rfl
              rw [e] at h
              exact h
      · refine ⟨_, rfl, ?_⟩
        refine iteT ?_
        refine close ?_
        have h1 : decide (1 ≤ (x.length : Int)) = false := decide_eq_false fun z => h1 (decide_eq_true (by omega))
        show lettersS x 10 = false
        unfold lettersS
        rw [h1]
        rfl
    · refine ⟨_, rfl, _, _, _, _, _, rfl, .ty _, hty, hk, _, rfl, ?_⟩
      refine iteT ?_
      have h := k G (Same.refl G)
      rw [show wordV v = false from lettersV_other hno] at h
      exact h
end
end K02
set_option Elab.async false
set_option linter.all false
set_option maxRecDepth 100000
set_option maxHeartbeats 4000000
namespace K02
open PySem PySem.Spec PyProof.Rows L2 TL Qh
abbrev sHeard : Stmt := top 16
abbrev sDue : Stmt := top 17
section
variable {P : Program} {w : World} {K : PySem.W.Frag} {mg : Str → Option Value} {base : Heap}
theorem scHeard : FnScope ["_law_thing", "_law_caught", "error"] ["_law_thing"] (defScope sHeard) := ⟨rfl, rfl, rfl, by decide +kernel, rfl, by decide +kernel, by decide +kernel⟩
theorem ok_heard {C CQ : Addr} (D : DefIn K mg "_law_heard" sHeard) (B : Blt mg) (T : Err1 P w K mg base "InvalidText" "index" C) (gQ : mg "QuoteError" = some (.ref CQ))
    (ex : PySem.W.exmOne K (.ref C) (.ref CQ) = some true) (ki : PySem.W.kitOne K (.ref C) (.ref C) = some true)
    (F_words_of : Ok P w K mg base "words_of" (defArgs sWordsOf) ["text"] 3 (spWordsOf K C)) : Ok P w K mg base "_law_heard" (defArgs sHeard) ["_law_thing"] 4 (spHeard K) := by
  refine D.ok scHeard (fun vs G Q E h => ?_) (fun _ _ _ _ _ _ us hl => match us, hl with | [_], _ => rfl) (fun f cdv A out t G vs Q E hr h => ?_)
  · obtain ⟨v, rfl, _⟩ := h
    rfl
  · obtain ⟨v, rfl, hv, k⟩ := h
    refine ⟨_, (pss_cons (ps_set (i := 1) scHeard.nd rfl (by first | exact Or.inl rfl | exact Or.inr rfl) pe_non)
      (pss_cons (ps_try_held (i := 2) (j := 1) rfl rfl rfl scHeard.nd rfl rfl rfl rfl (by decide) (by decide) rfl ⟨rfl, by decide, .inl gQ⟩ takes0
        (fun W pn xe tk _ => pss_one (ps_ret (pe_tup (pa_cons pe_str (pa_cons (pe_ownK0 F_words_of hr tk (pk_cons (pv 0) pk_nil) (fun _ _ _ _ _ _ _ _ ws hl => match ws, hl with | [_], _ => rfl)) pa_nil))))))
      (pss_one (ps_ret (pe_ifExp (pt_val (pe_callB call_errIs (by rfl) B.n_isinstance bt_isinstance (pa_cons (pv 1) (pa_cons (pe_glob (v := .ref C) rfl T.c.g rfl) pa_nil)))) (pe_tup (pa_cons pe_str (pa_cons (pe_errF (pv 1)) pa_nil))) (pe_tup (pa_cons pe_str (pa_cons pe_non pa_nil)))))))), ?_⟩
    refine ⟨_, rfl, v, rfl, hv, fun ps hps q G' hq sm hl => ?_, fun i hi d G' hd sm hl => ?_⟩
    · refine ⟨by show 2 ≤ sizeLine; decide, fun p hp => k p _ (sm.trans (Qh.Same.new hp)) ?_⟩
      unfold heardD
      rw [hps]
      exact .tup (SqT.of upd_same) (.cons (.str _) (.cons (.tup (SqT.of (by rw [upd_ne (ne_of_none hl hp)]; exact hl)) (dp_strs ps)) .nil))
    · refine ⟨true, ex, fun _ a ha => ?_, fun z => nomatch z⟩
      have da : d ≠ a := ne_of_none hl ha
      have hd' : (L2.upd G' a (exk (.ref C) (some d) a)) d = some (.xd [(Str.ofString "index", .int (i : Int))]) := by
        rw [upd_ne da]
        exact hl
      refine ⟨_, rfl, a, C, d, _, .ref C, .ref C, true, rfl, upd_same, hd', T.c.ec, fun u r => r, ki, _, rfl, ?_⟩
      refine ⟨_, rfl, a, C, d, _, _, rfl, upd_same, hd', T.c.xf, T.no, rfl, by show 2 ≤ sizeLine; decide, fun p hp => k p _ ((sm.trans (Qh.Same.new ha)).trans (Qh.Same.new hp)) ?_⟩
      unfold heardD
      rw [hi]
      exact .tup (SqT.of upd_same) (.cons (.str _) (.cons (.int _) .nil))
theorem scDue : FnScope ["_law_parts", "_law_wrong", "_law_k"] ["_law_parts"] (defScope sDue) := ⟨rfl, rfl, rfl, by decide +kernel, rfl, by decide +kernel, by decide +kernel⟩
theorem ok_due (D : DefIn K mg "_law_due" sDue) (B : Blt mg) (F__law_is_word : Ok P w K mg base "_law_is_word" (defArgs sLawIsWord) ["_law_thing"] 1 (spLawIsWord K)) : Ok P w K mg base "_law_due" (defArgs sDue) ["_law_parts"] 2 (spDue K) := by
  refine D.ok scDue (fun vs G Q E h => ?_) (fun _ _ _ _ _ _ us hl => match us, hl with | [_], _ => rfl) (fun f cdv A out t G vs Q E hr h => ?_)
  · obtain ⟨a, ys, rfl, _⟩ := h
    rfl
  · obtain ⟨a, ys, rfl, hS, hy, hn, k⟩ := h
    have hu64 := hr.units
    have hu65 : (A.deeper (envOfC (Str.ofString "_law_due") (defScope sDue) t.heap.objs.size f cdv)).units + 65 < cLine := by
      have := hr.un
      omega
    refine ⟨_, (pss_cons (ps_if (pt_cmpR (op_inT hu65) (pv 0) (pe_tup (pa_cons (pe_lst pa_nil) (pa_cons (pe_lst (pa_cons pe_str pa_nil)) pa_nil))) (by rfl)) (pss_one (ps_ret (pe_tup (pa_cons pe_str (pa_cons (pe_tup pa_nil) pa_nil))))) pss_nil)
      (pss_cons (ps_setLc (i := 1) (own := [("_law_k", 2)]) (tt := _) rfl scDue.nd rfl rfl (sw_true rfl rfl rfl (by decide +kernel)) (pi_range1 (by rfl) B.n_range (pa_cons (pe_callB call_len (by rfl) B.n_len bt_len (pa_cons (pv 0) pa_nil)) pa_nil)) (blkOk_by (N := ["_law_parts", "_law_wrong", "_law_k"]) (sc := defScope sDue) (by decide +kernel)) (fun _ _ _ _ _ => pg_name (i := 2) scDue.nd rfl (by first | exact Or.inl rfl | exact Or.inr rfl)) (fun _ _ _ _ _ => pts_one (pt_not (pt_val (pe_own F__law_is_word (hr.mono (by decide)) takes0 (pa_cons (pe_ix (r := rIxL K) ix_list (pv 0) (pv 2) (fun _ _ => rfl)) pa_nil))))) (fun _ _ _ _ _ => (pv 2)))
      (pss_one (ps_ret (pe_ifExp (pt_cmpR (op_neD hu64) (pv 1) (pe_lst pa_nil) (nomark _)) (pe_tup (pa_cons pe_str (pa_cons (pe_ix ix_list (pv 1) pe_int (fun _ _ => rfl)) pa_nil))) (pe_tup (pa_cons pe_str (pa_cons (pe_callTy call_tuple_of (by rfl) B.n_tuple bt_tuple (pa_cons (pv 0) pa_nil)) pa_nil)))))))), ?_⟩
    -- if parts in ([], [''])
    refine ⟨_, rfl, by show 0 ≤ sizeLine; decide, fun q1 h1 => ⟨by show 1 ≤ sizeLine; decide, fun q2 h2 => ⟨by show 2 ≤ sizeLine; decide, fun q3 h3 => ?_⟩⟩⟩
    have sm3 : Same G (L2.upd (L2.upd (L2.upd G q1 (.lst [])) q2 (.lst [.str (Str.ofString "")])) q3 (.tup [.ref q1, .ref q2])) := ((Qh.Same.new h1).trans (Qh.Same.new h2)).trans (Qh.Same.new h3)
    have q21 : q1 ≠ q2 := fun e => by rw [← e, upd_same] at h2; cases h2
    have a1 : (L2.upd (L2.upd (L2.upd G q1 (.lst [])) q2 (.lst [.str (Str.ofString "")])) q3 (.tup [.ref q1, .ref q2])) q1 = some (.lst []) := Qh.Same.new h3 _ _ (by rw [upd_ne q21]; exact upd_same)
    have a2 : (L2.upd (L2.upd (L2.upd G q1 (.lst [])) q2 (.lst [.str (Str.ofString "")])) q3 (.tup [.ref q1, .ref q2])) q2 = some (.lst [.str (Str.ofString "")]) := Qh.Same.new h3 _ _ upd_same
    refine ⟨.list (ys.map PyData.str), [.list [], .list [.str nothing]], .lst (sm3.seq hS) (dp_strs ys), .tup (SqT.of upd_same) (.cons (.lst (SqL.of a1) .nil) (.cons (.lst (SqL.of a2) (.cons (.str _) .nil)) .nil)), shaped_strsL ys (fun y h => clean_txt (hy y h).1), by decide +kernel, _, rfl, ?_⟩
    rw [in_two]
    generalize L2.upd (L2.upd (L2.upd G q1 _) q2 _) q3 _ = G3 at sm3 ⊢
    refine ite2 (fun hin => ?_) (fun hin => ?_)
    · have hin := of_decide_eq_true hin
      refine ⟨by show 0 ≤ sizeLine; decide, fun q4 h4 => ⟨by show 2 ≤ sizeLine; decide, fun q5 h5 => k q5 _ ((sm3.trans (Qh.Same.new h4)).trans (Qh.Same.new h5)) ?_⟩⟩
      unfold dueD
      rw [if_pos hin]
      exact .tup (SqT.of upd_same) (.cons (.str _) (.cons (.tup (SqT.of (Qh.Same.new h5 _ _ upd_same)) .nil) .nil))
    · have hin : ¬ (ys = [] ∨ ys = [nothing]) := fun z => hin (decide_eq_true z)
      have hS3 := sm3.seq hS
      refine ⟨_, rfl, .ref a, _, rfl, .inl ⟨_, hS3, rfl⟩, _, rfl, by omega, by rw [List.length_map]; omega, fun D hD => ?_⟩
      have en : ((ys.map V.str).length : Int).toNat = ys.length := by rw [List.length_map]; rfl
      rw [en]
      refine lc_range (fun i G' => Same G3 G' ∧ G' D = some (.lst (((List.range i).filter fun k => !wordS (ys.getD k nothing)).map fun k : Nat => V.int (k : Int)))) ⟨Qh.Same.new hD, by rw [upd_same]; rfl⟩ ?_ ?_
      · rintro i G5 hi ⟨sm, hl⟩
        have hi' : i < ys.length := hi
        have hg : ys[i]? = some ys[i] := List.getElem?_eq_getElem hi'
        have hgd : ys.getD i nothing = ys[i] := by rw [List.getD_eq_getElem?_getD, hg]; rfl
        have hmem : ys[i] ∈ ys := List.getElem_mem hi'
        refine ⟨rfl, ?_⟩
        refine ⟨_, rfl, _, rfl, a, _, _, .str ys[i], rfl, rfl, sm.seq hS3, ?_, .str ys[i], rfl, .inl ⟨_, rfl, Nat.le_trans (hy _ hmem).2 (by decide)⟩, fun x e => by rw [← V.str.inj e]; exact clean_txt (hy _ hmem).1, fun G6 sm6 => ⟨_, rfl, ?_⟩⟩
        · rw [Int.zero_add]
          exact atI_nat (by rw [List.getElem?_map, hg]; rfl)
        · have er : (List.range (i + 1)).filter (fun k => !wordS (ys.getD k nothing)) = (List.range i).filter (fun k => !wordS (ys.getD k nothing)) ++ (if wordS ys[i] = true then [] else [i]) := by
            rw [List.range_succ, List.filter_append, List.filter_cons, hgd]
            cases wordS ys[i] <;> rfl
          rw [show wordV (.str ys[i]) = wordS ys[i] from rfl]
          cases e : wordS ys[i] with
          | true =>
            refine ⟨sm.trans sm6, ?_⟩
            rw [er, e, if_pos rfl, List.append_nil]
            exact sm6 _ _ hl
          | false =>
            refine ⟨_, rfl, _, sm6 _ _ hl, ?_, Qh.Same.fresh (sm.trans sm6) hD, ?_⟩
            · rw [List.length_map]
              have h1 := List.length_filter_le (fun k => !wordS (ys.getD k nothing)) (List.range i)
              rw [List.length_range] at h1
              exact big_line' (by omega)
            · rw [upd_same, er, e, if_neg (by decide), List.map_append, Int.zero_add]
              rfl
      · rintro G5 ⟨sm, hl⟩
        have hf := first_of (q := fun p => !wordS p) (z := nothing) (xs := ys) _ rfl
        generalize (List.range ys.length).filter (fun k => !wordS (ys.getD k nothing)) = cs at hl hf
        have ev : cs.map (fun k : Nat => V.int (k : Int)) = (cs.map fun k : Nat => (k : Int)).map V.int := by rw [List.map_map]; rfl
        refine ⟨_, rfl, by show 0 ≤ sizeLine; decide, fun q6 h6 => ?_⟩
        have hl6 := Qh.Same.new (o := HO.lst []) h6 _ _ hl
        rw [ev] at hl6
        refine ⟨_, .list [], .lst (SqL.of hl6) (dp_ints _), .lst (SqL.of upd_same) .nil, shaped_ints _, rfl, _, rfl, ?_⟩
        rw [eqv_nil_r]
        have sm6 : Same G (L2.upd G5 q6 (.lst [])) := (sm3.trans sm).trans (Qh.Same.new h6)
        cases cs with
        | nil =>
          refine ⟨_, rfl, a, _, rfl, .inl ⟨sm6.seq hS, fun q7 h7 => ⟨by show 2 ≤ sizeLine; decide, fun q8 h8 => k q8 _ ((sm6.trans (Qh.Same.new h7)).trans (Qh.Same.new h8)) ?_⟩⟩⟩
          unfold dueD
          rw [if_neg hin, hf]
          exact .tup (SqT.of upd_same) (.cons (.str _) (.cons (.tup (SqT.of (Qh.Same.new h8 _ _ upd_same)) (dp_strs ys)) .nil))
        | cons j r =>
          refine ⟨_, rfl, D, _, 0, .int (j : Int), rfl, rfl, SqL.of hl6, atI_nat (j := 0) rfl, by show 2 ≤ sizeLine; decide, fun q8 h8 => k q8 _ (sm6.trans (Qh.Same.new h8)) ?_⟩
          unfold dueD
          rw [if_neg hin, hf]
          exact .tup (SqT.of upd_same) (.cons (.str _) (.cons (.int _) .nil))
end
end K02
set_option Elab.async false
set_option linter.all false
set_option maxRecDepth 100000
set_option maxHeartbeats 4000000
namespace K02
open PySem PySem.Spec PyProof.Rows L2 TL Qh
abbrev sSpoilt : Stmt := top 18
def cleanV (v : V) : Bool := match v with
  | .str x => clean x && decide (x.length ≤ 1000)
  | _ => false
theorem cleans_of {xs : List V} (h : xs.all cleanV = true) : ∀ v ∈ xs, ∃ x, v = .str x ∧ clean x = true ∧ x.length ≤ 1000 := fun v hv => by
  have h := List.all_eq_true.mp h v hv
  cases v with
  | str x =>
    have h := Bool.and_eq_true_iff.mp h
    exact ⟨x, rfl, h.1, of_decide_eq_true h.2⟩
  | _ => cases h
def spSpoilt (K : PySem.W.Frag) : Sp := fun vs G Q _ => ∃ (p l a : Addr) (c : Int) (ys : List Str), vs = [.ref p, .ref a] ∧ Pen G p l c ∧ c ≤ 800000 ∧ a ≠ p ∧ SqL K G a (ys.map V.str) ∧ (∀ y ∈ ys, clean y = true ∧ y.length ≤ 1000) ∧ ys.length ≤ 100 ∧
  ∀ (q : Addr) (zs : List Str) (G' : Hp), (∀ y ∈ zs, clean y = true ∧ y.length ≤ 1000) → zs.length ≤ ys.length + 2 → G q = none → Kp p G G' → G' q = some (.lst (zs.map V.str)) → Pen G' p l (c + 40) → Q (.ref q) G'
section
variable {P : Program} {w : World} {K : PySem.W.Frag} {mg : Str → Option Value} {base : Heap}
theorem scSpoilt : FnScope ["_law_pen_here", "_law_parts", "_law_some", "_law_turn", "_law_menu", "_law_odd"] ["_law_pen_here", "_law_parts"] (defScope sSpoilt) := ⟨rfl, rfl, rfl, by decide +kernel, rfl, by decide +kernel, by decide +kernel⟩
theorem ok_spoilt (D : DefIn K mg "_law_spoilt" sSpoilt) (B : Blt mg) (F__law_draw : Ok P w K mg base "_law_draw" (defArgs sDraw) ["_law_pen_here", "_law_many"] 1 spDraw)
    (F__law_pick : Ok P w K mg base "_law_pick" (defArgs sPick) ["_law_pen_here", "_law_some"] 2 (spPick K)) (F__law_string : Ok P w K mg base "_law_string" (defArgs sString) ["_law_pen_here"] 3 (spClean 12 14)) :
    Ok P w K mg base "_law_spoilt" (defArgs sSpoilt) ["_law_pen_here", "_law_parts"] 4 (spSpoilt K) := by
  refine D.ok scSpoilt (fun vs G Q E h => ?_) (fun _ _ _ _ _ _ us hl => match us, hl with | [_, _], _ => rfl) (fun f cdv A out t G vs Q E hr h => ?_)
  · obtain ⟨p, l, a, c, ys, rfl, _⟩ := h
    rfl
  · obtain ⟨p, l, a, c, ys, rfl, hP, hc, ha, hS, hy, hn, k⟩ := h
    refine ⟨_, (pss_cons (ps_set (i := 2) scSpoilt.nd rfl (by first | exact Or.inl rfl | exact Or.inr rfl) (pe_callTy call_list_of (by rfl) B.n_list bt_list (pa_cons (pv 1) pa_nil)))
      (pss_cons (ps_for (passes_of rfl) rfl (pi_range1 (by rfl) B.n_range (pa_cons (pe_op op_add pe_int (pe_own F__law_draw (hr.mono (by decide)) takes0 (pa_cons (pv 0) (pa_cons pe_int pa_nil)))) pa_nil)) (pg_name (i := 3) scSpoilt.nd rfl (by first | exact Or.inl rfl | exact Or.inr rfl))
        (pss_cons (ps_set (i := 4) scSpoilt.nd rfl (by first | exact Or.inl rfl | exact Or.inr rfl) (pe_lst (pa_cons pe_str (pa_cons pe_str (pa_cons pe_str (pa_cons pe_str (pa_cons pe_str (pa_cons pe_str (pa_cons pe_str (pa_cons pe_str (pa_cons pe_str (pa_cons pe_str (pa_cons pe_str pa_nil)))))))))))))
        (pss_cons (ps_set (i := 5) scSpoilt.nd rfl (by first | exact Or.inl rfl | exact Or.inr rfl) (pe_own F__law_pick (hr.mono (by decide)) takes0 (pa_cons (pv 0) (pa_cons (pe_op op_cat (pv 4) (pe_lst (pa_cons (pe_own F__law_string (hr.mono (by decide)) takes0 (pa_cons (pv 0) pa_nil)) pa_nil))) pa_nil))))
        (pss_one (ps_expr (pe_bm PySem.F.plainAttrs_list PySem.F.slot_list_insert PySem.F.type_list_insert mt_insert (pv 2) (pa_cons (pe_own F__law_draw (hr.mono (by decide)) takes0 (pa_cons (pv 0) (pa_cons (pe_op op_add (pe_callB call_len (by rfl) B.n_len bt_len (pa_cons (pv 2) pa_nil)) pe_int) pa_nil))) (pa_cons (pv 5) pa_nil))))))))
      (pss_one (ps_ret (pv 2))))), ?_⟩
    refine ⟨_, rfl, a, _, rfl, .inl hS, fun q hq => ?_⟩
    have qp := hP.ne hq
    have ql := hP.nel hq
    refine ⟨_, rfl, p, l, c, 2, rfl, hP.new hq, by omega, by decide, by decide, fun n G2 n0 n1 kp2 P2 => ?_⟩
    refine ⟨_, _, rfl, rfl, 1 + n, rfl, by omega, by omega, ?_⟩
    have hq2 := kp2 q _ qp upd_same
    refine for_range (fun i σ' G' => ∃ (o3 o4 o5 : Option V) (zs : List Str), σ' = [some (.ref p), some (.ref a), some (.ref q), o3, o4, o5] ∧ Kp p G G' ∧ G' q = some (.lst (zs.map V.str)) ∧ (∀ y ∈ zs, clean y = true ∧ y.length ≤ 1000) ∧ zs.length = ys.length + i ∧ Pen G' p l (c + 1 + 16 * i))
      ⟨none, none, none, ys, rfl, (Kp.new hq).trans kp2, hq2, hy, rfl, P2.mono (by omega)⟩ ?_ ?_
    · rintro i σ1 G3 hi ⟨o3, o4, o5, zs, rfl, kp3, hq3, hz, hzn, P3⟩
      refine ⟨by show 11 ≤ sizeLine; decide, fun m hm => ?_⟩
      have mp := P3.ne hm
      refine ⟨_, rfl, _, rfl, _, rfl, p, l, c + 1 + 16 * i, rfl, P3.new hm, by omega, fun x G6 cx lx kp6 P6 => ?_⟩
      refine ⟨by show 1 ≤ sizeLine; decide, fun q6 h6 => ?_⟩
      have hm6 := kp6 m _ mp upd_same
      refine ⟨m, q6, _, _, rfl, rfl, by rw [upd_ne (ne_of_none hm6 h6)]; exact hm6, upd_same, by show 11 + 1 ≤ sizeLine; decide, fun q7 h7 => ?_⟩
      refine ⟨p, l, q7, c + 1 + 16 * i + 14, _, rfl, (P6.new h6).new h7, by omega, Pen.ne (P6.new h6) h7, SqL.of upd_same, by show 0 < 12; decide, by show 12 ≤ 1000000; decide, fun v G8 hv kp8 P8 => ?_⟩
      obtain ⟨y, rfl, cy, ly⟩ : ∃ x, v = .str x ∧ clean x = true ∧ x.length ≤ 1000 := by
        rcases List.mem_append.mp hv with hv | hv
        · exact cleans_of (by decide +kernel) v hv
        · rw [List.mem_singleton.mp hv]
          exact ⟨x, rfl, cx, by omega⟩
      have kpX : Kp p G3 G8 := (((Kp.new hm).trans kp6).trans ((Kp.new h6).trans (Kp.new h7))).trans kp8
      have hq8 := kpX q _ qp hq3
      refine ⟨_, rfl, .inl ⟨rfl, _, SqL.of hq8⟩, _, rfl, _, rfl, .ref q, _, rfl, .inl ⟨_, SqL.of hq8, rfl⟩, _, _, rfl, rfl, p, l, c + 1 + 16 * i + 14 + 1, _, rfl, P8, by omega, by omega, ?_, fun d G9 d0 d1 kp9 P9 => ?_⟩
      · rw [List.length_map]
        omega
      have hq9 := kp9 q _ qp hq8
      rw [List.length_map] at d1
      refine ⟨_, rfl, q, _, d, _, rfl, rfl, hq9, by rw [List.length_map]; exact big_line' (by omega), d0, by omega, ?_⟩
      refine ⟨_, _, _, zs.take d.toNat ++ [y] ++ zs.drop d.toNat, rfl, ((kp3.trans kpX).trans kp9).fresh hq, ?_, fun z hz' => ?_, ?_, (P9.upd qp ql).mono (by omega)⟩
      · rw [upd_same, List.map_append, List.map_append, List.map_take, List.map_drop]
        rfl
      · rcases List.mem_append.mp hz' with hz' | hz'
        · rcases List.mem_append.mp hz' with hz' | hz'
          · exact hz z (List.mem_of_mem_take hz')
          · rw [List.mem_singleton.mp hz']
            exact ⟨cy, ly⟩
        · exact hz z (List.mem_of_mem_drop hz')
      · simp only [List.length_append, List.length_take, List.length_drop, List.length_singleton]
        omega
    · rintro σ1 G3 ⟨o3, o4, o5, zs, rfl, kp3, hq3, hz, hzn, P3⟩
      exact ⟨_, rfl, k q zs G3 hz (by omega) hq kp3 hq3 (P3.mono (by omega))⟩
end
end K02
set_option Elab.async false
set_option linter.all false
set_option maxRecDepth 100000
set_option maxHeartbeats 4000000
/-! New objects, told by what stands there and what stays; values that are no texts; repr of texts. -/
namespace Qh
open PySem PySem.Spec PyProof.Rows L2 TL
section
variable {X : Cx} {es : List Expr} {t : TA} {pos : Pos}
def nTup (t : TA) : TE := fun σ G Q => t σ G fun xs G1 => xs.length ≤ sizeLine ∧ ∀ p G', G1 p = none → Same G1 G' → G' p = some (.tup xs) → Q (.ref p) G'
def nLst (t : TA) : TE := fun σ G Q => t σ G fun xs G1 => xs.length ≤ sizeLine ∧ ∀ p G', G1 p = none → Same G1 G' → G' p = some (.lst xs) → Q (.ref p) G'
theorem pn_tup {x1} (h : PA X es t) : PE X (.Tuple es x1 pos) (nTup t) := by
  constructor
  intro pins s σ G Q I hq
  refine wpAny_Tuple_spliced (thn (h.run pos pins s σ G _ I hq) ?_)
  rintro us s1 ⟨xs, G1, I1, r, z, q⟩
  refine ⟨r.length ▸ z, ?_⟩
  have hf : G1 s1.heap.objs.size = none := I1.hok.fresh (Nat.le_refl _)
  refine ⟨.ref s1.heap.objs.size, L2.upd G1 s1.heap.objs.size (.tup xs), I1.laid (t' := s1.toks) (fun b u e => Heap.get?_push_of_some _ e) (Nat.le_refl _) ?_, rfl, q _ _ hf (Same.new hf) upd_same⟩
  exact ⟨z, us, r, ⟨_, Heap.get?_push_size _ rfl, rfl, _, rfl⟩⟩
theorem pn_lst (h : PA X es t) : PE X (.List es pos) (nLst t) := by
  constructor
  intro pins s σ G Q I hq
  refine wpAny_List_spliced (thn (h.run pos pins s σ G _ I hq) ?_)
  rintro us s1 ⟨xs, G1, I1, r, z, q⟩
  refine ⟨r.length ▸ z, ?_⟩
  have hf : G1 s1.heap.objs.size = none := I1.hok.fresh (Nat.le_refl _)
  refine ⟨.ref s1.heap.objs.size, L2.upd G1 s1.heap.objs.size (.lst xs), I1.laid (t' := s1.toks) (fun b u e => Heap.get?_push_of_some _ e) (Nat.le_refl _) ?_, rfl, q _ _ hf (Same.new hf) upd_same⟩
  exact ⟨z, us, 0, r, Heap.get?_push_size _ rfl⟩
theorem opr_imp {f : Value → Value → Sem Value} {r r' : R2} (h : OpR X f r) (k : ∀ x y G Q, r' x y G Q → r x y G Q) : OpR X f r' := fun pins s σ G x y v u Q I rx ry q => h pins s σ G x y v u Q I rx ry (k x y G Q q)
theorem callr_imp {f : Value} {r r' : List V → Hp → VK → Prop} (h : CallR X f r) (k : ∀ xs G Q, r' xs G Q → r xs G Q) : CallR X f r' := fun pins s σ G xs us Q I r q => h pins s σ G xs us Q I r (k xs G Q q)
def nRep : R2 := fun x y G Q => ∃ l k xs, x = .ref l ∧ y = .int k ∧ G l = some (.lst xs) ∧ -(2 ^ 63) ≤ k ∧ k < 2 ^ 63 ∧ xs.length * k.toNat ≤ sizeLine ∧ ∀ p G', G p = none → Same G G' → G' p = some (.lst (List.replicate k.toNat xs).flatten) → Q (.ref p) G'
theorem on_rep : OpR X (binaryOp .Mult) nRep := opr_imp op_rep fun x y G Q ⟨l, k, xs, e1, e2, h1, h2, h3, hz, q⟩ => ⟨l, k, xs, e1, e2, h1, h2, h3, hz, fun p hp => q p _ hp (Same.new hp) upd_same⟩
def nList (K : PySem.W.Frag) : List V → Hp → VK → Prop := fun vs G Q => ∃ p ys, vs = [.ref p] ∧ (SqL K G p ys ∨ SqT K G p ys) ∧ ∀ l G', G l = none → Same G G' → G' l = some (.lst ys) → Q (.ref l) G'
theorem cn_list : CallR X (.type "list") (nList X.K) := callr_imp call_list_of fun xs G Q ⟨p, ys, e, h, q⟩ => ⟨p, ys, e, h, fun l hl => q l _ hl (Same.new hl) upd_same⟩
/-- tuple(a list) -/
def nTuple (K : PySem.W.Frag) : List V → Hp → VK → Prop := fun vs G Q => ∃ p ys, vs = [.ref p] ∧ SqL K G p ys ∧ ∀ l G', G l = none → Same G G' → G' l = some (.tup ys) → Q (.ref l) G'
theorem cn_tuple : CallR X (.type "tuple") (nTuple X.K) := callr_imp call_tuple_of fun xs G Q ⟨p, ys, e, h, q⟩ => ⟨p, ys, e, .inl ⟨h, fun l hl => q l _ hl (Same.new hl) upd_same⟩⟩
theorem pe_imp {e : Expr} {te te' : TE} (h : PE X e te) (k : ∀ σ G Q, te' σ G Q → te σ G Q) : PE X e te' := ⟨fun pins s σ G Q I q => h.run pins s σ G Q I (k σ G Q q)⟩
def nDict : TE := fun _ G Q => ∀ p G', G p = none → Same G G' → G' p = some (.dK []) → Q (.ref p) G'
theorem pn_dict : PE X (.Dict [] [] pos) nDict := pe_imp pe_dnewK fun σ G Q q p hp => q p _ hp (Same.new hp) upd_same
/-- {'k': a text} -/
def nDict1 (k v : Str) : TE := fun _ G Q => ∀ p G', G p = none → Same G G' → G' p = some (.dK [(.inr k, .str v)]) → Q (.ref p) G'
theorem pn_dict1 {k v : Str} {j1 j2 : Nat} {p1 p2 : Pos} : PE X (.Dict [some (.Constant (.str k) j1 p1)] [.Constant (.str v) j2 p2] pos) (nDict1 k v) := by
  refine pe_imp (pe_disp (pps_cons pe_str pe_str pps_nil) rfl rfl (by simp) (by show 1 ≤ 15; decide)) fun σ G Q q p hp => ?_
  refine ⟨upd_same, [(.inr k, .str v)], rfl, by show 1 ≤ 15; decide, ?_⟩
  rw [upd_upd]
  exact q p _ hp (Same.new hp) upd_same
end
/-! ### what is read stays -/
mutual
theorem dp_same {K : PySem.W.Frag} {G G' : Hp} (s : Same G G') : ∀ {v : V} {d : PyData}, Dp K G v d → Dp K G' v d
  | _, _, .non => .non
  | _, _, .bl b => .bl b
  | _, _, .int i => .int i
  | _, _, .str x => .str x
  | _, _, .lst h r => .lst (s.seq h) (dps_same s r)
  | _, _, .tup h r => .tup (by
      rcases h with (h | ⟨o, h⟩) | h
      · exact .inl (.inl (s _ _ h))
      · exact .inl (.inr ⟨o, s _ _ h⟩)
      · exact .inr h) (dps_same s r)
theorem dps_same {K : PySem.W.Frag} {G G' : Hp} (s : Same G G') : ∀ {vs : List V} {ds : List PyData}, DpAll K G vs ds → DpAll K G' vs ds
  | _, _, .nil => .nil
  | _, _, .cons h r => .cons (dp_same s h) (dps_same s r)
end
/-- no text, of a known type -/
def Odd (K : PySem.W.Frag) (G : Hp) (v : V) : Prop := (∀ x, v ≠ .str x) ∧ ((v = .non ∨ (∃ b, v = .bl b) ∨ ∃ i, v = .int i) ∨ ∃ a o, v = .ref a ∧ G a = some o ∧ ((∃ xs, o = .lst xs) ∨ (∃ xs, o = .tup xs) ∨ ∃ kvs, o = .dK kvs))
theorem Odd.same {K : PySem.W.Frag} {G G' : Hp} {v : V} (h : Odd K G v) (s : Same G G') : Odd K G' v := by
  obtain ⟨h1, h2 | ⟨a, o, e, ha, h3⟩⟩ := h
  · exact ⟨h1, .inl h2⟩
  · exact ⟨h1, .inr ⟨a, o, e, s _ _ ha, h3⟩⟩
theorem Odd.known {K : PySem.W.Frag} {G : Hp} {v : V} (h : Odd K G v) : Known K G v := by
  refine .inr ⟨h.1, ?_⟩
  obtain ⟨_, (rfl | ⟨b, rfl⟩ | ⟨i, rfl⟩) | ⟨a, o, rfl, ha, ⟨xs, rfl⟩ | ⟨xs, rfl⟩ | ⟨kvs, rfl⟩⟩⟩ := h
  · exact ⟨_, .base .non, kit_ty (by decide +kernel)⟩
  · exact ⟨_, .base (.bl b), kit_ty (by decide +kernel)⟩
  · exact ⟨_, .base (.int i), kit_ty (by decide +kernel)⟩
  · exact ⟨_, .base (.lst ha), kit_ty (by decide +kernel)⟩
  · exact ⟨_, .base (.tup ha), kit_ty (by decide +kernel)⟩
  · exact ⟨_, .base (.dK ha), kit_ty (by decide +kernel)⟩
theorem odd_ref {K : PySem.W.Frag} {G : Hp} {a : Addr} {o : HO} (ha : G a = some o) (h : (∃ xs, o = .lst xs) ∨ (∃ xs, o = .tup xs) ∨ ∃ kvs, o = .dK kvs) : Odd K G (.ref a) := ⟨(fun x e => nomatch e), Or.inr ⟨a, o, rfl, ha, h⟩⟩
/-! ### repr of a tuple of texts -/
theorem shown_strs : ∀ xs : List Str, PyData.shownAll (xs.map PyData.str) = xs.map reprText
  | [] => rfl
  | a :: r => by
    show reprText a :: PyData.shownAll (r.map PyData.str) = reprText a :: r.map reprText
    rw [shown_strs r]
theorem showable_strs : ∀ xs : List Str, PyData.showableAll (xs.map PyData.str) = true
  | [] => rfl
  | a :: r => by
    show (true && PyData.showableAll (r.map PyData.str)) = true
    rw [showable_strs r]
    rfl
theorem nodict_strs : ∀ xs : List Str, PyData.hasDictAll (xs.map PyData.str) = false
  | [] => rfl
  | a :: r => by
    show (false || PyData.hasDictAll (r.map PyData.str)) = false
    rw [nodict_strs r]
    rfl
theorem fmt_cost_le {xs : List Str} {m : Nat} (h : ∀ x ∈ xs, x.length ≤ m) : fmtCost xs ≤ xs.length * (10 * m + 4) := by
  unfold fmtCost
  have := sum_le (l := xs.map fun y => 10 * y.length + 4) (m := 10 * m + 4) fun z hz => by
    obtain ⟨y, hy, rfl⟩ := List.mem_map.mp hz
    have := h y hy
    omega
  rw [List.length_map] at this
  exact this
theorem shown_len {xs : List Str} (hc : ∀ x ∈ xs, txt x = true) : (PyData.shown (.tuple (xs.map PyData.str))).length ≤ fmtCost xs + 2 := by
  have e : PyData.shown (.tuple (xs.map PyData.str)) = tupleText (xs.map reprText) := by
    show tupleText (PyData.shownAll (xs.map PyData.str)) = _
    rw [shown_strs]
  rw [e]
  have h1 := fmt_text (xs.map reprText)
  have h2 := fmt_piled xs fun y hy c hcm => by
    have := hc y hy
    unfold txt at this
    rw [← Array.all_toList, List.all_eq_true] at this
    have := this c hcm
    simp at this
    omega
  omega
/-! ### what is heard of words put together -/
theorem joinL_len : ∀ ps : List (List Nat), (joinL [32] ps).length ≤ (ps.map (·.length)).sum + ps.length
  | [] => by simp [joinL]
  | [p] => by simp [joinL]
  | p :: q :: r => by
    have ih := joinL_len (q :: r)
    show (p ++ ([32] ++ joinL [32] (q :: r))).length ≤ _
    simp only [List.length_append, List.length_cons, List.length_nil, List.map_cons, List.sum_cons] at ih ⊢
    omega
theorem join_len (ps : List Str) : (Txt.join blank ps).length ≤ (ps.map (·.length)).sum + ps.length := by
  rw [len_tl, join_eq, tl_join, tl_blank]
  have h := joinL_len (ps.map tl)
  rw [List.map_map, List.length_map] at h
  have e : (ps.map ((fun x => x.length) ∘ tl)) = ps.map (·.length) := List.map_congr_left fun y _ => (len_tl y).symm
  rw [e] at h
  exact h
theorem join_empty {ps : List Str} (h : (Txt.join blank ps).length = 0) : ps = [] ∨ ps = [nothing] := by
  rw [len_tl, join_eq, tl_join, tl_blank] at h
  match ps, h with
  | [], _ => exact .inl rfl
  | [p], h =>
    refine .inr ?_
    have h : (tl p).length = 0 := h
    have e : tl p = tl nothing := by
      rw [tl_nothing]
      exact List.eq_nil_of_length_eq_zero h
    rw [ext_tl e]
  | p :: q :: r, h =>
    exfalso
    have h : (tl p ++ ([32] ++ joinL [32] ((q :: r).map tl))).length = 0 := h
    simp at h
theorem heard_due {ps : List Str} (h : ∀ p ∈ ps, clean p = true) : heardD (.str (Txt.join blank ps)) = dueD ps := by
  unfold heardD dueD
  show (match heardS (Txt.join blank ps) with | .inl ps => told ps | .inr i => atIx i) = _
  unfold heardS
  by_cases h0 : (Txt.join blank ps).length = 0
  · rw [if_pos h0, if_pos (join_empty h0)]
  · have hn : ¬ (ps = [] ∨ ps = [nothing]) := by
      rintro (rfl | rfl)
      · exact h0 (by decide +kernel)
      · exact h0 (by decide +kernel)
    rw [if_neg h0, if_neg hn, parts_join (fun e => hn (.inl e)) fun p hp => clean_blank (h p hp)]
    cases ps.findIdx? (fun p => !wordS p) <;> rfl
theorem due_words {ps : List Str} (h : ∀ p ∈ ps, wordS p = true) : dueD ps = told ps := by
  unfold dueD
  split
  · rename_i e
    rcases e with rfl | rfl
    · rfl
    · exact absurd (h nothing List.mem_cons_self) (by decide +kernel)
  · rw [findIdx_none fun j b hb => by rw [h b (List.mem_of_getElem? hb)]; rfl]
theorem told_of {x : Str} {ps : List Str} (h : heardD (.str x) = told ps) : heardV (.str x) = .inl ps := by
  unfold heardD at h
  cases e : heardV (.str x) with
  | inl qs =>
    rw [e] at h
    have h2 : qs.map PyData.str = ps.map PyData.str := by
      have h : PyData.tuple [.str (Str.ofString "told"), .tuple (qs.map PyData.str)] = .tuple [.str (Str.ofString "told"), .tuple (ps.map PyData.str)] := h
      injection h with h
      injection h with _ h
      injection h with h _
      injection h with h
    have inj : ∀ {a b : List Str}, a.map PyData.str = b.map PyData.str → a = b := by
      intro a
      induction a with
      | nil => intro b h; cases b with
        | nil => rfl
        | cons _ _ => cases h
      | cons x r ih => intro b h; cases b with
        | nil => cases h
        | cons y s =>
          injection h with h1 h2
          injection h1 with h1
          rw [h1, ih h2]
    rw [inj h2]
  | inr i =>
    rw [e] at h
    have h : PyData.tuple [.str (Str.ofString "index"), .int (i : Int)] = .tuple [.str (Str.ofString "told"), .tuple (ps.map PyData.str)] := h
    injection h with h
    injection h with h1 h2
    injection h2 with h2 _
    cases h2
theorem shaped_told {ps : List Str} (h : ∀ p ∈ ps, txt p = true) : SeqAt.shaped (told ps) = true := by
  show ((PyData.canLay0 (.str (Str.ofString "told")) && (PyData.canLayAll0 (ps.map PyData.str) && true)) && decide (max 0 (max (PyData.depthAll (ps.map PyData.str) + 1) 0) + 1 ≤ 64)) = true
  rw [(lay_strs ps h).1, (lay_strs ps h).2]
  decide +kernel
theorem shaped_atIx (i : Nat) : SeqAt.shaped (atIx i) = true := by
  have h : (PyData.canLay0 (.str (Str.ofString "index")) && (true && true)) = true := by decide +kernel
  show ((PyData.canLay0 (.str (Str.ofString "index")) && (true && true)) && decide (max 0 (max 0 0) + 1 ≤ 64)) = true
  rw [h]
  rfl
theorem shaped_due {ps : List Str} (h : ∀ p ∈ ps, txt p = true) : SeqAt.shaped (dueD ps) = true := by
  unfold dueD
  split
  · exact shaped_told fun p hp => nomatch hp
  · split
    · exact shaped_told h
    · exact shaped_atIx _
theorem eqv_same {d : PyData} (h : SeqAt.shaped d = true) : PyData.eqv d d = true := SeqAt.eqv_refl d (SeqAt.canLay_of_shaped h)
end Qh
set_option Elab.async false
set_option linter.all false
set_option maxRecDepth 100000
set_option maxHeartbeats 16000000
namespace K02
open PySem PySem.Spec PyProof.Rows L2 TL Qh
abbrev sLaw : Stmt := top 19
abbrev lawN : List Str := ["_law_script", "_law_pen_here", "_law_turn", "_law_thing", "_law_parts", "_law_k", "_law_page", "_law_kept", "_law_again", "_law_some", "_law_due_here"]
theorem iteE {b : Bool} {A B : Prop} (hb : b = true) (h : B) : if (!b) = true then A else B := by
  subst hb
  exact h
def spLaw (K : PySem.W.Frag) : Sp := fun vs G Q _ => ∃ (a : Addr) (ns : List Int), vs = [.ref a] ∧ SqL K G a (ns.map V.int) ∧ ∀ G', Q (.bl true) G'
section
variable {P : Program} {w : World} {K : PySem.W.Frag} {mg : Str → Option Value} {base : Heap}
theorem scLaw : FnScope lawN ["_law_script"] (defScope sLaw) := ⟨rfl, rfl, rfl, by decide +kernel, rfl, by decide +kernel, by decide +kernel⟩
theorem ok_law {C fl : Addr} {fdl : FuncData} (D : Fun K "law" "law" sLaw fl fdl) (B : Blt mg)
    (F__law_pen : Ok P w K mg base "_law_pen" (defArgs sPen) ["_law_script"] 1 (spPen K))
    (F__law_draw : Ok P w K mg base "_law_draw" (defArgs sDraw) ["_law_pen_here", "_law_many"] 1 spDraw)
    (F__law_string : Ok P w K mg base "_law_string" (defArgs sString) ["_law_pen_here"] 3 (spClean 12 14))
    (F_is_word : Ok P w K mg base "is_word" (defArgs sIsWord) ["value"] 2 (spIsWord K))
    (F__law_is_word : Ok P w K mg base "_law_is_word" (defArgs sLawIsWord) ["_law_thing"] 1 (spLawIsWord K))
    (F__law_plain : Ok P w K mg base "_law_plain" (defArgs sPlain) ["_law_pen_here"] 3 (spPlain 12))
    (F__law_heard : Ok P w K mg base "_law_heard" (defArgs sHeard) ["_law_thing"] 4 (spHeard K))
    (F_words_of : Ok P w K mg base "words_of" (defArgs sWordsOf) ["text"] 3 (spWordsOf K C))
    (F_text_of : Ok P w K mg base "text_of" (defArgs sTextOf) ["words"] 1 (spTextOf K))
    (F__law_spoilt : Ok P w K mg base "_law_spoilt" (defArgs sSpoilt) ["_law_pen_here", "_law_parts"] 4 (spSpoilt K))
    (F__law_due : Ok P w K mg base "_law_due" (defArgs sDue) ["_law_parts"] 2 (spDue K)) :
    FnG P w K mg base (L2.CX P w) 5 fl fdl ["_law_script"] (spLaw K) := by
  refine Qh.okG D scLaw (fun vs G Q E h => ?_) (fun cdv A out t G vs Q E gu hr h => ?_)
  · obtain ⟨a, ns, rfl, _⟩ := h
    rfl
  · obtain ⟨a, ns, rfl, hS, k⟩ := h
    have hu64 := hr.units
    have hgu : (A.deeper (envOfC (Str.ofString "law") (defScope sLaw) t.heap.objs.size fl cdv)).guards = some [] := gu
    refine ⟨_, (pss_cons (ps_set (i := 1) scLaw.nd rfl (by first | exact Or.inl rfl | exact Or.inr rfl) (pe_own F__law_pen (hr.mono (by decide)) takes0 (pa_cons (pv 0) pa_nil)))
    (pss_cons (ps_for (passes_of rfl) rfl (pi_range1 (by rfl) B.n_range (pa_cons pe_int pa_nil)) (pg_name (i := 2) scLaw.nd rfl (by first | exact Or.inl rfl | exact Or.inr rfl))
      (pss_cons (ps_set (i := 3) scLaw.nd rfl (by first | exact Or.inl rfl | exact Or.inr rfl) (pe_own F__law_string (hr.mono (by decide)) takes0 (pa_cons (pv 1) pa_nil)))
    (pss_one (ps_if (pt_cmpR op_ne (pe_callB (call_repr hgu hu64) (by rfl) B.n_repr bt_repr (pa_cons (pn_lst (pa_cons (pe_own F_is_word (hr.mono (by decide)) takes0 (pa_cons (pv 3) pa_nil)) (pa_cons (pe_ownK0 F_is_word (hr.mono (by decide)) takes0 (pk_cons (pv 3) pk_nil) (fun _ _ _ _ _ _ _ _ ws hl => match ws, hl with | [_], _ => rfl)) pa_nil))) pa_nil)) (pe_callB (call_repr hgu hu64) (by rfl) B.n_repr bt_repr (pa_cons (pe_op on_rep (pn_lst (pa_cons (pe_own F__law_is_word (hr.mono (by decide)) takes0 (pa_cons (pv 3) pa_nil)) pa_nil)) pe_int) pa_nil)) (nomark _)) (pss_one (ps_ret pe_bl)) pss_nil))))
    (pss_cons (ps_for (passes_of rfl) rfl (pi_range1 (by rfl) B.n_range (pa_cons pe_int pa_nil)) (pg_name (i := 2) scLaw.nd rfl (by first | exact Or.inl rfl | exact Or.inr rfl))
      (pss_cons (ps_setLc (i := 4) (own := [("_law_k", 5)]) (tt := tYes) rfl scLaw.nd rfl rfl (sw_true rfl rfl rfl (by decide +kernel)) (pi_range1 (by rfl) B.n_range (pa_cons (pe_ix ix_list (pn_lst (pa_cons pe_int (pa_cons pe_int (pa_cons pe_int (pa_cons (pe_op op_add pe_int (pe_own F__law_draw (hr.mono (by decide)) takes0 (pa_cons (pv 1) (pa_cons pe_int pa_nil)))) (pa_cons pe_int pa_nil)))))) (pe_own F__law_draw (hr.mono (by decide)) takes0 (pa_cons (pv 1) (pa_cons pe_int pa_nil))) (fun _ _ => rfl)) pa_nil)) (blkOk_by (N := lawN) (sc := defScope sLaw) (by decide +kernel)) (fun _ _ _ _ _ => pg_name (i := 5) scLaw.nd rfl (by first | exact Or.inl rfl | exact Or.inr rfl)) (fun _ _ _ _ _ => pts_nil) (fun _ _ _ _ _ => (pe_own F__law_plain (hr.mono (by decide)) takes0 (pa_cons (pv 1) pa_nil))))
    (pss_cons (ps_par rfl scLaw.nd (i := 6) (j := 7) rfl rfl (by decide) rfl rfl (pa_cons (pe_bm PySem.F.plainAttrs_str PySem.F.slot_str_join PySem.F.type_str_join mt_join pe_str (pa_cons (pv 4) pa_nil)) (pa_cons (pe_callTy cn_list (by rfl) B.n_list bt_list (pa_cons (pv 4) pa_nil)) pa_nil)) (by rfl))
    (pss_cons (ps_if (PW.pt (pw_or (pt_cmpR (op_neD hu64) (pe_own F__law_heard (hr.mono (by decide)) takes0 (pa_cons (pv 6) pa_nil)) (pn_tup (pa_cons pe_str (pa_cons (pe_callTy cn_tuple (by rfl) B.n_tuple bt_tuple (pa_cons (pv 4) pa_nil)) pa_nil))) (nomark _)) (pw_or1 (pt_cmpR op_ne (pe_callB (call_repr hgu hu64) (by rfl) B.n_repr bt_repr (pa_cons (pe_own F_words_of (hr.mono (by decide)) takes0 (pa_cons (pv 6) pa_nil)) pa_nil)) (pe_callB (call_repr hgu hu64) (by rfl) B.n_repr bt_repr (pa_cons (pe_callTy cn_tuple (by rfl) B.n_tuple bt_tuple (pa_cons (pv 4) pa_nil)) pa_nil)) (nomark _))))) (pss_one (ps_ret pe_bl)) pss_nil)
    (pss_cons (ps_if (PW.pt (pw_or (pt_cmpR op_ne (pe_own F_text_of (hr.mono (by decide)) takes0 (pa_cons (pe_callTy cn_tuple (by rfl) B.n_tuple bt_tuple (pa_cons (pv 4) pa_nil)) pa_nil)) (pv 6) (nomark _)) (pw_or (pt_cmpR op_ne (pe_ownK0 F_text_of (hr.mono (by decide)) takes0 (pk_cons (pv 4) pk_nil) (fun _ _ _ _ _ _ _ _ ws hl => match ws, hl with | [_], _ => rfl)) (pv 6) (nomark _)) (pw_or1 (pt_cmpR (op_neD hu64) (pv 4) (pv 7) (nomark _)))))) (pss_one (ps_ret pe_bl)) pss_nil)
    (pss_one (ps_for (passes_of rfl) rfl (pi_range1 (by rfl) B.n_range (pa_cons pe_int pa_nil)) (pg_name (i := 8) scLaw.nd rfl (by first | exact Or.inl rfl | exact Or.inr rfl))
      (pss_cons (ps_set (i := 9) scLaw.nd rfl (by first | exact Or.inl rfl | exact Or.inr rfl) (pe_own F__law_spoilt (hr.mono (by decide)) takes0 (pa_cons (pv 1) (pa_cons (pv 4) pa_nil))))
    (pss_one (ps_if (pt_cmpR (op_neD hu64) (pe_own F__law_heard (hr.mono (by decide)) takes0 (pa_cons (pe_bm PySem.F.plainAttrs_str PySem.F.slot_str_join PySem.F.type_str_join mt_join pe_str (pa_cons (pv 9) pa_nil)) pa_nil)) (pe_own F__law_due (hr.mono (by decide)) takes0 (pa_cons (pv 9) pa_nil)) (nomark _)) (pss_one (ps_ret pe_bl)) pss_nil))))))))))
    (pss_cons (ps_for (passes_of rfl) rfl (pi_list (pn_lst (pa_cons pe_non (pa_cons pe_bl (pa_cons pe_int (pa_cons (pe_op op_pow pe_int pe_int) (pa_cons (pn_tup (pa_cons pe_str pa_nil)) (pa_cons (pn_lst (pa_cons pe_str pa_nil)) (pa_cons pn_dict (pa_cons pn_dict1 (pa_cons (pn_tup pa_nil) (pa_cons (pn_lst pa_nil) pa_nil)))))))))))) (pg_name (i := 3) scLaw.nd rfl (by first | exact Or.inl rfl | exact Or.inr rfl))
      (pss_one (ps_if (PW.pt (pw_or (pt_cmpR op_isnot_bl (pe_own F_is_word (hr.mono (by decide)) takes0 (pa_cons (pv 3) pa_nil)) pe_bl (nomark _)) (pw_or1 (pt_cmpR (op_neD hu64) (pe_own F__law_heard (hr.mono (by decide)) takes0 (pa_cons (pv 3) pa_nil)) (pn_tup (pa_cons pe_str (pa_cons pe_int pa_nil))) (nomark _))))) (pss_one (ps_ret pe_bl)) pss_nil)))
    (pss_cons (ps_for (passes_of rfl) rfl (pi_list (pn_lst (pa_cons (pn_tup (pa_cons pe_str (pa_cons pe_int pa_nil))) (pa_cons (pn_tup (pa_cons pe_str (pa_cons pe_int pa_nil))) (pa_cons (pn_tup (pa_cons pe_str (pa_cons pe_int pa_nil))) (pa_cons (pn_tup (pa_cons pe_str (pa_cons pe_int pa_nil))) (pa_cons (pn_tup (pa_cons pe_str (pa_cons pe_int pa_nil))) (pa_cons (pn_tup (pa_cons pe_str (pa_cons pe_int pa_nil))) (pa_cons (pn_tup (pa_cons pe_str (pa_cons pe_int pa_nil))) pa_nil))))))))) (pg_tup rfl (pgs_cons (pg_name (i := 6) scLaw.nd rfl (by first | exact Or.inl rfl | exact Or.inr rfl)) (pgs_cons (pg_name (i := 10) scLaw.nd rfl (by first | exact Or.inl rfl | exact Or.inr rfl)) pgs_nil)))
      (pss_one (ps_if (pt_cmpR (op_neD hu64) (pe_own F__law_heard (hr.mono (by decide)) takes0 (pa_cons (pv 6) pa_nil)) (pn_tup (pa_cons pe_str (pa_cons (pv 10) pa_nil))) (nomark _)) (pss_one (ps_ret pe_bl)) pss_nil)))
    (pss_one (ps_ret (pe_and (pe_cmpR (op_eqD hu64) (pe_own F_words_of (hr.mono (by decide)) takes0 (pa_cons pe_str pa_nil)) (pn_tup pa_nil) (nomark _)) (pe_and (pe_cmpR op_eq (pe_own F_text_of (hr.mono (by decide)) takes0 (pa_cons (pn_tup pa_nil) pa_nil)) pe_str (nomark _)) (pe_one (pe_cmpR op_eq (pe_own F_text_of (hr.mono (by decide)) takes0 (pa_cons (pn_lst pa_nil) pa_nil)) pe_str (nomark _)))))))))))), ?_⟩
    refine ⟨_, rfl, a, ns, rfl, hS, fun p l G1 hp1 s1 P1 => ?_⟩
    -- ten texts
    refine ⟨10, rfl, by decide, by decide, ?_⟩
    refine for_range (fun i σ' G' => ∃ (o2 o3 : Option V), σ' = [some (.ref a), some (.ref p), o2, o3, none, none, none, none, none, none, none] ∧ Pen G' p l (14 * i)) ⟨none, none, rfl, P1.mono (by omega)⟩ ?_ ?_
    · rintro i σ1 G2 hi ⟨o2, o3, rfl, P2⟩
      have hi : i < 10 := hi
      refine ⟨_, rfl, p, l, 14 * i, rfl, P2, by omega, fun x G3 cx lx kp3 P3 => ?_⟩
      refine ⟨_, rfl, .str x, rfl, .inl ⟨x, rfl, by omega⟩, fun G4 s4 => ?_⟩
      refine ⟨_, rfl, .str x, rfl, .inl ⟨x, rfl, by omega⟩, fun G5 s5 => ?_⟩
      refine ⟨by show 2 ≤ sizeLine; decide, fun q1 G6 h6 s6 a6 => ?_⟩
      refine ⟨q1, .list [.bool _, .bool _], rfl, .lst (SqL.of a6) (.cons (.bl _) (.cons (.bl _) .nil)), rfl, rfl, by show max 0 (max 0 0) + 1 ≤ 40; decide, ?_, ?_⟩
      · cases wordV (.str x) <;> decide +kernel
      refine ⟨_, rfl, .str x, rfl, .inl ⟨x, rfl, by omega⟩, fun y e => by rw [← V.str.inj e]; exact clean_txt cx, fun G7 s7 => ?_⟩
      refine ⟨by show 1 ≤ sizeLine; decide, fun q2 G8 h8 s8 a8 => ?_⟩
      refine ⟨q2, 2, _, rfl, rfl, a8, by decide, by decide, by show 1 * 2 ≤ sizeLine; decide, fun q3 G9 h9 s9 a9 => ?_⟩
      refine ⟨q3, .list [.bool _, .bool _], rfl, .lst (SqL.of a9) (.cons (.bl _) (.cons (.bl _) .nil)), rfl, rfl, by show max 0 (max 0 0) + 1 ≤ 40; decide, ?_, ?_⟩
      · cases wordV (.str x) <;> decide +kernel
      refine ⟨rfl, _, rfl, ?_⟩
      refine iteNS rfl ?_
      exact ⟨_, _, rfl, ((P3.same (((s4.trans s5).trans s6).trans ((s7.trans s8).trans s9))).mono (by omega))⟩
    · rintro σ1 G2 ⟨o2, o3, rfl, P2⟩
      -- six times words put together
      refine ⟨6, rfl, by decide, by decide, ?_⟩
      refine for_range (fun i σ' G' => ∃ (o2 o3 o4 o6 o7 o8 o9 : Option V), σ' = [some (.ref a), some (.ref p), o2, o3, o4, none, o6, o7, o8, o9, none] ∧ Pen G' p l (140 + 1000 * i)) ⟨_, _, _, _, _, _, _, rfl, P2.mono (by omega)⟩ ?_ ?_
      · rintro i σ1 G3 hi ⟨o2, o3, o4, o6, o7, o8, o9, rfl, P3⟩
        have hi : i < 6 := hi
        refine ⟨_, rfl, p, l, _, 9, rfl, P3, by omega, by decide, by decide, fun d1 G4 d10 d11 kp4 P4 => ?_⟩
        refine ⟨_, _, rfl, rfl, ?_⟩
        refine ⟨by show 5 ≤ sizeLine; decide, fun q1 G5 h5 s5 a5 => ?_⟩
        refine ⟨_, rfl, p, l, _, 5, rfl, P4.same s5, by omega, by decide, by decide, fun d2 G6 d20 d21 kp6 P6 => ?_⟩
        have q1p := P4.ne h5
        obtain ⟨v, hv, _, hm⟩ := at_lt (xs := [V.int 0, .int 1, .int 2, .int (1 + d1), .int 40]) d2 d20 d21
        obtain ⟨n, rfl, n0, n40⟩ : ∃ n, v = V.int n ∧ 0 ≤ n ∧ n ≤ 40 := by
          simp only [List.mem_cons, List.not_mem_nil, or_false] at hm
          rcases hm with rfl | rfl | rfl | rfl | rfl
          · exact ⟨_, rfl, by omega, by omega⟩
          · exact ⟨_, rfl, by omega, by omega⟩
          · exact ⟨_, rfl, by omega, by omega⟩
          · exact ⟨_, rfl, by omega, by omega⟩
          · exact ⟨_, rfl, by omega, by omega⟩
        refine ⟨q1, _, d2, _, rfl, rfl, SqL.of (kp6 q1 _ q1p a5), hv, ?_⟩
        refine ⟨n, rfl, by omega, by omega, fun D hD => ?_⟩
        have Dp := P6.ne hD
        have Dl := P6.nel hD
        refine lc_range (fun j G' => ∃ ys : List Str, G' D = some (.lst (ys.map V.str)) ∧ ys.length = j ∧ (∀ y ∈ ys, wordS y = true) ∧ Pen G' p l (140 + 1000 * i + 2 + 12 * j)) ⟨[], upd_same, rfl, fun y hy => (nomatch hy), (P6.new hD).mono (by omega)⟩ ?_ ?_
        · rintro j G7 hj ⟨ys, hl, hn, hy, P7⟩
          refine ⟨rfl, ?_⟩
          refine ⟨_, rfl, p, l, _, rfl, P7, by omega, fun x G8 hx kp8 P8 => ?_⟩
          refine ⟨_, kp8 D _ Dp hl, by rw [List.length_map]; exact big_line' (by omega), ys ++ [x], ?_, by simp [hn], fun z hz => ?_, (P8.upd Dp Dl).mono (by omega)⟩
          · rw [upd_same, List.map_append]
            rfl
          · rcases List.mem_append.mp hz with hz | hz
            · exact hy z hz
            · rw [List.mem_singleton.mp hz]
              exact hx
        · rintro G7 ⟨ys, hl, hn, hy, P7⟩
          have hc : ∀ y ∈ ys, clean y = true := fun y h => word_clean (hy y h)
          have ht : ∀ y ∈ ys, txt y = true := fun y h => clean_txt (hc y h)
          have hwl : ∀ y ∈ ys, y.length ≤ 10 := fun y h => by
            have h1 := hy y h
            unfold wordS lettersS at h1
            have h2 := of_decide_eq_true (Bool.and_eq_true_iff.mp (Bool.and_eq_true_iff.mp h1).1).2
            omega
          have hsum := sum_le (l := ys.map (·.length)) (m := 10) fun z hz => by
            obtain ⟨y, hyy, rfl⟩ := List.mem_map.mp hz
            exact hwl y hyy
          rw [List.length_map] at hsum
          have hn40 : ys.length ≤ 40 := by omega
          have hpl := join_len ys
          have hh : heardD (.str (Txt.join blank ys)) = told ys := (heard_due hc).trans (due_words hy)
          have hfc := fmt_cost_le hwl
          have hsl := shown_len ht
          refine ⟨rfl, _, rfl, blank, D, ys, rfl, rfl, .inl (SqL.of hl), by show _ + _ * 1 ≤ 16777216; omega, ?_⟩
          refine ⟨_, rfl, D, _, rfl, .inl (SqL.of hl), fun q8 G8 h8 s8 a8 => ?_⟩
          refine ⟨_, _, rfl, ?_⟩
          have l8 := s8 _ _ hl
          -- heard
          refine ⟨_, rfl, .str (Txt.join blank ys), rfl, .inl ⟨_, rfl, by omega⟩, fun q9 G9 s9 d9 => ?_⟩
          have l9 := s9 _ _ l8
          refine ⟨_, rfl, D, _, rfl, SqL.of l9, fun q10 G10 h10 s10 a10 => ?_⟩
          have l10 := s10 _ _ l9
          refine ⟨by show 2 ≤ sizeLine; decide, fun q11 G11 h11 s11 a11 => ?_⟩
          have l11 := s11 _ _ l10
          refine ⟨_, told ys, dp_same (s10.trans s11) d9, .tup (SqT.of a11) (.cons (.str _) (.cons (.tup (SqT.of (s11 _ _ a10)) (dp_strs ys)) .nil)), by rw [hh]; exact shaped_told ht, shaped_told ht, _, rfl, ?_⟩
          rw [hh]
          refine iteE (eqv_same (shaped_told ht)) ?_
          -- words_of
          refine ⟨_, rfl, .str (Txt.join blank ys), rfl, .inl ⟨_, rfl, by omega⟩, fun ps e q12 G12 h12 s12 a12 => ?_, fun i e => ?_⟩
          case' refine_2 => exact absurd ((told_of hh).symm.trans e) (fun z => nomatch z)
          have e := Sum.inl.inj ((told_of hh).symm.trans e)
          subst e
          have l12 := s12 _ _ l11
          refine ⟨q12, .tuple (ys.map PyData.str), rfl, .tup (SqT.of a12) (dp_strs ys), showable_strs ys, nodict_strs ys, ?_, by unfold sizeLine; omega, ?_⟩
          · show PyData.depthAll (ys.map PyData.str) + 1 ≤ 40
            rw [(lay_strs ys ht).2]
            decide
          refine ⟨_, rfl, D, _, rfl, SqL.of l12, fun q13 G13 h13 s13 a13 => ?_⟩
          have l13 := s13 _ _ l12
          refine ⟨q13, .tuple (ys.map PyData.str), rfl, .tup (SqT.of a13) (dp_strs ys), showable_strs ys, nodict_strs ys, ?_, by unfold sizeLine; omega, ?_⟩
          · show PyData.depthAll (ys.map PyData.str) + 1 ≤ 40
            rw [(lay_strs ys ht).2]
            decide
          refine ⟨rfl, _, rfl, ?_⟩
          refine iteNS rfl ?_
          -- text_of
          refine ⟨_, rfl, D, _, rfl, SqL.of l13, fun q14 G14 h14 s14 a14 => ?_⟩
          have l14 := s14 _ _ l13
          refine ⟨q14, ys, rfl, .inr (SqT.of a14), by omega, ?_⟩
          refine ⟨_, rfl, rfl, _, rfl, ?_⟩
          refine iteNS rfl ?_
          refine ⟨_, rfl, D, ys, rfl, .inl (SqL.of l14), by omega, ?_⟩
          refine ⟨_, rfl, rfl, _, rfl, ?_⟩
          refine iteNS rfl ?_
          have sA := ((s8.trans s9).trans (s10.trans s11)).trans ((s12.trans s13).trans s14)
          have k14 : G14 q8 = _ := (((s9.trans s10).trans s11).trans ((s12.trans s13).trans s14)) _ _ a8
          refine ⟨_, rfl, _, rfl, .list (ys.map PyData.str), .list (ys.map PyData.str), .lst (SqL.of l14) (dp_strs ys), .lst (SqL.of k14) (dp_strs ys), shaped_strsL ys ht, shaped_strsL ys ht, _, rfl, ?_⟩
          refine iteE (eqv_same (shaped_strsL ys ht)) ?_
          -- spoilt
          have P14 := P7.same sA
          refine ⟨3, rfl, by decide, by decide, ?_⟩
          refine for_range (fun j σ' G' => ∃ (o8 o9 : Option V), σ' = [some (.ref a), some (.ref p), some (.int (0 + (i : Int))), o3, some (.ref D), none, some (.str (Txt.join blank ys)), some (.ref q8), o8, o9, none] ∧ G' D = some (.lst (ys.map V.str)) ∧ Pen G' p l (140 + 1000 * i + 500 + 40 * j)) ⟨_, _, rfl, l14, P14.mono (by omega)⟩ ?_ ?_
          · rintro j σ1 G15 hj ⟨o8, o9, rfl, l15, P15⟩
            have hj : j < 3 := hj
            refine ⟨_, rfl, _, rfl, p, l, D, _, ys, rfl, P15, by omega, Dp, SqL.of l15, fun y h => ⟨hc y h, Nat.le_trans (hwl y h) (by decide)⟩, by omega, fun q zs G16 hz hzn hq kp16 a16 P16 => ?_⟩
            have hzc : ∀ y ∈ zs, clean y = true := fun y h => (hz y h).1
            have hzs := sum_le (l := zs.map (·.length)) (m := 1000) fun z hz' => by
              obtain ⟨y, hyy, rfl⟩ := List.mem_map.mp hz'
              exact (hz y hyy).2
            rw [List.length_map] at hzs
            have hzl := join_len zs
            have hzd : heardD (.str (Txt.join blank zs)) = dueD zs := heard_due hzc
            have hsd := shaped_due fun y h => clean_txt (hzc y h)
            refine ⟨rfl, _, rfl, blank, q, zs, rfl, rfl, .inl (SqL.of a16), by show _ + _ * 1 ≤ 16777216; omega, ?_⟩
            refine ⟨.str (Txt.join blank zs), rfl, .inl ⟨_, rfl, by omega⟩, fun q17 G17 s17 d17 => ?_⟩
            refine ⟨_, rfl, q, zs, rfl, SqL.of (s17 _ _ a16), hz, by omega, fun q18 G18 s18 d18 => ?_⟩
            refine ⟨_, _, dp_same s18 d17, d18, by rw [hzd]; exact hsd, hsd, _, rfl, ?_⟩
            rw [hzd]
            refine iteE (eqv_same hsd) ?_
            have hl16 := kp16 D _ Dp l15
            exact ⟨_, _, rfl, s18 _ _ (s17 _ _ hl16), ((P16.same s17).same s18).mono (by omega)⟩
          · rintro σ1 G15 ⟨o8, o9, rfl, l15, P15⟩
            exact ⟨_, _, _, _, _, _, _, rfl, P15.mono (by omega)⟩
      · rintro σ1 G3 ⟨o2, o3, o4, o6, o7, o8, o9, rfl, -⟩
        -- ten values that are no texts
        refine ⟨_, _, rfl, rfl, ⟨by decide, by decide, by decide⟩, ?_⟩
        refine ⟨by show 1 ≤ sizeLine; decide, fun q1 G4 h4 s4 a4 => ?_⟩
        refine ⟨by show 1 ≤ sizeLine; decide, fun q2 G5 h5 s5 a5 => ?_⟩
        refine fun q3 G6 h6 s6 a6 => ?_
        refine fun q4 G7 h7 s7 a7 => ?_
        refine ⟨by show 0 ≤ sizeLine; decide, fun q5 G8 h8 s8 a8 => ?_⟩
        refine ⟨by show 0 ≤ sizeLine; decide, fun q6 G9 h9 s9 a9 => ?_⟩
        refine ⟨by show 10 ≤ sizeLine; decide, fun q7 G10 h10 s10 a10 => ?_⟩
        have b8 := s10 _ _ (s9 _ _ a8)
        have b7 := s10 _ _ (s9 _ _ (s8 _ _ a7))
        have b6 := s10 _ _ (s9 _ _ (s8 _ _ (s7 _ _ a6)))
        have b5 := s10 _ _ (s9 _ _ (s8 _ _ (s7 _ _ (s6 _ _ a5))))
        have b4 := s10 _ _ (s9 _ _ (s8 _ _ (s7 _ _ (s6 _ _ (s5 _ _ a4)))))
        have hodd : ∀ v ∈ [V.non, .bl true, .int 5, .int (10 ^ (59 : Int).toNat), .ref q1, .ref q2, .ref q3, .ref q4, .ref q5, .ref q6], Odd K G10 v := fun v hv => by
          simp only [List.mem_cons, List.not_mem_nil, or_false] at hv
          rcases hv with rfl | rfl | rfl | rfl | rfl | rfl | rfl | rfl | rfl | rfl
          · exact ⟨(fun _ e => nomatch e), .inl (.inl rfl)⟩
          · exact ⟨(fun _ e => nomatch e), .inl (.inr (.inl ⟨_, rfl⟩))⟩
          · exact ⟨(fun _ e => nomatch e), .inl (.inr (.inr ⟨_, rfl⟩))⟩
          · exact ⟨(fun _ e => nomatch e), .inl (.inr (.inr ⟨_, rfl⟩))⟩
          · exact odd_ref b4 (.inr (.inl ⟨_, rfl⟩))
          · exact odd_ref b5 (.inl ⟨_, rfl⟩)
          · exact odd_ref b6 (.inr (.inr ⟨_, rfl⟩))
          · exact odd_ref b7 (.inr (.inr ⟨_, rfl⟩))
          · exact odd_ref b8 (.inr (.inl ⟨_, rfl⟩))
          · exact odd_ref (s10 _ _ a9) (.inl ⟨_, rfl⟩)
        refine ⟨q7, rfl, ⟨_, SqL.of a10⟩, ?_⟩
        refine for_list (fun i σ' G' => ∃ (o3 : Option V), σ' = [some (.ref a), some (.ref p), o2, o3, o4, none, o6, o7, o8, o9, none] ∧ Same G10 G') ⟨_, rfl, Same.refl _⟩ (fun i σ' G' _ ⟨_, _, s⟩ => SqL.of (s _ _ a10)) ?_ ?_
        · rintro i v σ1 G11 hi ⟨o3, rfl, s11⟩
          have ho := (hodd v (List.mem_of_getElem? hi)).same s11
          refine ⟨_, rfl, v, rfl, ho.known, fun G12 s12 => ?_⟩
          refine ⟨_, _, rfl, rfl, _, rfl, ?_⟩
          refine iteNS (show wordV v = false from lettersV_other ho.1) ?_
          refine ⟨_, rfl, v, rfl, (ho.same s12).known, fun q13 G13 s13 d13 => ?_⟩
          refine ⟨by show 2 ≤ sizeLine; decide, fun q14 G14 h14 s14 a14 => ?_⟩
          have hd0 : heardD v = atIx 0 := by
            unfold heardD
            rw [heardV_other ho.1]
            rfl
          refine ⟨_, atIx 0, dp_same s14 d13, .tup (SqT.of a14) (.cons (.str _) (.cons (.int 0) .nil)), by rw [hd0]; exact shaped_atIx 0, shaped_atIx 0, _, rfl, ?_⟩
          rw [hd0]
          refine iteE (eqv_same (shaped_atIx 0)) ?_
          exact ⟨_, rfl, (s11.trans s12).trans (s13.trans s14)⟩
        · rintro σ1 G11 ⟨o3, rfl, -⟩
          -- seven texts that are wrong
          refine ⟨by show 2 ≤ sizeLine; decide, fun q1 G12 h12 s12 a12 => ?_⟩
          refine ⟨by show 2 ≤ sizeLine; decide, fun q2 G13 h13 s13 a13 => ?_⟩
          refine ⟨by show 2 ≤ sizeLine; decide, fun q3 G14 h14 s14 a14 => ?_⟩
          refine ⟨by show 2 ≤ sizeLine; decide, fun q4 G15 h15 s15 a15 => ?_⟩
          refine ⟨by show 2 ≤ sizeLine; decide, fun q5 G16 h16 s16 a16 => ?_⟩
          refine ⟨by show 2 ≤ sizeLine; decide, fun q6 G17 h17 s17 a17 => ?_⟩
          refine ⟨by show 2 ≤ sizeLine; decide, fun q7 G18 h18 s18 a18 => ?_⟩
          refine ⟨by show 7 ≤ sizeLine; decide, fun q8 G19 h19 s19 a19 => ?_⟩
          have c7 := s19 _ _ a18
          have c6 := s19 _ _ (s18 _ _ a17)
          have c5 := s19 _ _ (s18 _ _ (s17 _ _ a16))
          have c4 := s19 _ _ (s18 _ _ (s17 _ _ (s16 _ _ a15)))
          have c3 := s19 _ _ (s18 _ _ (s17 _ _ (s16 _ _ (s15 _ _ a14))))
          have c2 := s19 _ _ (s18 _ _ (s17 _ _ (s16 _ _ (s15 _ _ (s14 _ _ a13)))))
          have c1 := s19 _ _ (s18 _ _ (s17 _ _ (s16 _ _ (s15 _ _ (s14 _ _ (s13 _ _ a12))))))
          have hbad : ∀ v ∈ [V.ref q1, .ref q2, .ref q3, .ref q4, .ref q5, .ref q6, .ref q7], ∃ (q : Addr) (x : Str) (n : Nat), v = .ref q ∧ G19 q = some (.tup [.str x, .int (n : Int)]) ∧ x.length ≤ 1000000 ∧ heardV (.str x) = .inr n := fun v hv => by
            simp only [List.mem_cons, List.not_mem_nil, or_false] at hv
            rcases hv with rfl | rfl | rfl | rfl | rfl | rfl | rfl
            · exact ⟨_, _, 0, rfl, c1, by decide, by decide +kernel⟩
            · exact ⟨_, _, 0, rfl, c2, by decide, by decide +kernel⟩
            · exact ⟨_, _, 0, rfl, c3, by decide, by decide +kernel⟩
            · exact ⟨_, _, 1, rfl, c4, by decide, by decide +kernel⟩
            · exact ⟨_, _, 1, rfl, c5, by decide, by decide +kernel⟩
            · exact ⟨_, _, 0, rfl, c6, by decide, by decide +kernel⟩
            · exact ⟨_, _, 1, rfl, c7, by decide, by decide +kernel⟩
          refine ⟨q8, rfl, ⟨_, SqL.of a19⟩, ?_⟩
          refine for_list (fun i σ' G' => ∃ (o6 o10 : Option V), σ' = [some (.ref a), some (.ref p), o2, o3, o4, none, o6, o7, o8, o9, o10] ∧ Same G19 G') ⟨_, _, rfl, Same.refl _⟩ (fun i σ' G' _ ⟨_, _, _, s⟩ => SqL.of (s _ _ a19)) ?_ ?_
          · rintro i v σ1 G20 hi ⟨o6, o10, rfl, s20⟩
            obtain ⟨q, x, n, rfl, hq, hx, hv⟩ := hbad v (List.mem_of_getElem? hi)
            refine ⟨q, _, rfl, SqT.of (s20 _ _ hq), rfl, _, _, rfl, _, _, rfl, rfl, ?_⟩
            refine ⟨_, rfl, .str x, rfl, .inl ⟨_, rfl, hx⟩, fun q13 G13 s13 d13 => ?_⟩
            have hd0 : heardD (.str x) = atIx n := by
              unfold heardD
              rw [hv]
              rfl
            refine ⟨_, rfl, by show 2 ≤ sizeLine; decide, fun q14 G14 h14 s14 a14 => ?_⟩
            refine ⟨_, atIx n, dp_same s14 d13, .tup (SqT.of a14) (.cons (.str _) (.cons (.int _) .nil)), by rw [hd0]; exact shaped_atIx n, shaped_atIx n, _, rfl, ?_⟩
            rw [hd0]
            refine iteE (eqv_same (shaped_atIx n)) ?_
            exact ⟨_, _, rfl, s20.trans (s13.trans s14)⟩
          · rintro σ1 G20 ⟨o6, o10, rfl, -⟩
            have he : heardV (.str (Str.ofString "")) = .inl [] := by decide +kernel
            refine ⟨.str (Str.ofString ""), rfl, .inl ⟨_, rfl, by decide⟩, fun ps e q21 G21 h21 s21 a21 => ?_, fun i e => ?_⟩
            case' refine_2 => exact absurd (he.symm.trans e) (fun z => nomatch z)
            have e := Sum.inl.inj (he.symm.trans e)
            subst e
            refine ⟨by show 0 ≤ sizeLine; decide, fun q22 G22 h22 s22 a22 => ?_⟩
            refine ⟨.tuple [], .tuple [], .tup (SqT.of (s22 _ _ a21)) .nil, .tup (SqT.of a22) .nil, rfl, rfl, true, rfl, ?_⟩
            refine iteT ?_
            refine ⟨by show 0 ≤ sizeLine; decide, fun q23 G23 h23 s23 a23 => ?_⟩
            refine ⟨q23, [], rfl, .inr (SqT.of a23), by decide, rfl, true, rfl, ?_⟩
            refine iteT ?_
            refine ⟨by show 0 ≤ sizeLine; decide, fun q24 G24 h24 s24 a24 => ?_⟩
            refine ⟨q24, [], rfl, .inl (SqL.of a24), by decide, rfl, ?_⟩
            exact k G24
end
end K02
set_option Elab.async false
set_option linter.all false
set_option maxRecDepth 100000
set_option maxHeartbeats 4000000
/-! Facts about own error classes, by one bit each. -/
namespace Qh
open PySem PySem.Spec PyProof.Rows L2
def oexB (K : PySem.W.Frag) (C : Addr) : Bool := match K.lookup C with
  | some ⟨.type "type", _, .cls cd, sl⟩ => (match cd.mro, sl.toList with
    | .ref C' :: bm, [_, _, _, _, some (.builtin n), _] => ((C' == C && n == "ValueError.__new__") && (!cd.hasDel && cd.hasDict)) && PySem.HandSPX.refsVE bm
    | _, _ => false)
  | _ => false
def oex2B (K : PySem.W.Frag) (C : Addr) : Bool := decide (PySem.W.findIn K (.ref C) "__setattr__" = some (some (.builtin "object.__setattr__"))) && (decide (PySem.W.typeIn K (.ref C) = some (.type "type")) && PySem.W.keepIn K (.ref C))
def ecB (K : PySem.W.Frag) (C : Addr) : Bool := decide (PySem.W.findIn K (.ref C) "__class__" = some (some (.builtin "object.__class__"))) && (decide (PySem.W.specialIn K (.builtin "object.__class__") "__get__" = some (some (.builtin "getset_descriptor.__get__"))) && (decide (PySem.W.takesIn K (.builtin "object.__class__") = some true) && decide (PySem.W.mroIn K C (.type "object") = some true)))
theorem oexB_ok {K : PySem.W.Frag} {C : Addr} (q : oexB K C = true) : ∃ nm q N bs bm sn sub ab col dd k0 k1 k2 k3 k5, K.lookup C = some (excClassObj nm q C N bs bm true sn sub ab col dd k0 k1 k2 k3 k5 "ValueError.__new__") ∧ PySem.HandSPX.refsVE bm = true := by
  unfold oexB at q
  split at q
  · rename_i dd cd sl ho
    split at q
    · rename_i C' bm k0 k1 k2 k3 n k5 hm hs
      simp only [Bool.and_eq_true, beq_iff_eq, Bool.not_eq_true'] at q
      obtain ⟨⟨⟨rfl, rfl⟩, hdel, hdct⟩, ht⟩ := q
      obtain ⟨nm, bs, mro, ns, qn, hd, sn, sub, ab, col, del⟩ := cd
      dsimp only at hm hdel hdct
      subst hm hdel hdct
      have hsl : sl = #[k0, k1, k2, k3, some (.builtin "ValueError.__new__"), k5] := by
        obtain ⟨l⟩ := sl
        simp only at hs
        rw [hs]
      subst hsl
      exact ⟨nm, qn, ns, bs, bm, sn, sub, ab, col, dd, k0, k1, k2, k3, k5, ho, ht⟩
    · cases q
  · cases q
theorem errC_of {K : PySem.W.Frag} {mg : Str → Option Value} {x : Str} {C : Addr} (g : mg x = some (.ref C)) (h1 : oexB K C = true) (h2 : oex2B K C = true) (h3 : xfB K C = true) (h4 : ecB K C = true) : ErrC K mg x C := by
  obtain ⟨a1, a2⟩ := Bool.and_eq_true_iff.mp h2
  obtain ⟨a2, a3⟩ := Bool.and_eq_true_iff.mp a2
  obtain ⟨b1, b2⟩ := Bool.and_eq_true_iff.mp h4
  obtain ⟨b2, b3⟩ := Bool.and_eq_true_iff.mp b2
  obtain ⟨b3, b4⟩ := Bool.and_eq_true_iff.mp b3
  have X := xfB_ok h3
  exact ⟨g, ⟨oexB_ok h1, of_decide_eq_true a1, X.exC, of_decide_eq_true a2, a3⟩, X, ⟨X.ga, X.gg, X.exC, X.hdC, of_decide_eq_true b1, of_decide_eq_true b2, of_decide_eq_true b3, of_decide_eq_true b4⟩⟩
/-- the module's names that are not bound by it -/
def freeB (K : PySem.W.Frag) (xs : List Str) : Bool := xs.all fun x => decide (PySem.W.nsIn K mainGlobals x = some none)
theorem freeB_ok {K : PySem.W.Frag} {h : Heap} {mg : Str → Option Value} (X : K.In h) (G : h.Ns mainGlobals mg) {xs : List Str} (c : freeB K xs = true) {x : Str} (hx : x ∈ xs) : mg x = none :=
  PySem.W.mg_none_of X G (of_decide_eq_true (List.all_eq_true.mp c x hx))
abbrev bltNames : List Str := ["len", "int", "abs", "list", "tuple", "range", "repr", "all", "any", "isinstance", "str", "bool", "dict", "set", "sorted", "enumerate", "zip", "max", "sum", "min", "reversed"]
theorem blt_of {K : PySem.W.Frag} {h : Heap} {mg : Str → Option Value} (X : K.In h) (G : h.Ns mainGlobals mg) (c : freeB K bltNames = true) : Blt mg := by
  have f := fun {x : Str} (hx : x ∈ bltNames) => freeB_ok X G c hx
  exact ⟨f (by decide +kernel), f (by decide +kernel), f (by decide +kernel), f (by decide +kernel), f (by decide +kernel), f (by decide +kernel), f (by decide +kernel), f (by decide +kernel), f (by decide +kernel), f (by decide +kernel), f (by decide +kernel), f (by decide +kernel), f (by decide +kernel), f (by decide +kernel), f (by decide +kernel), f (by decide +kernel), f (by decide +kernel), f (by decide +kernel), f (by decide +kernel), f (by decide +kernel), f (by decide +kernel)⟩
end Qh
set_option Elab.async false
set_option linter.all false
set_option maxRecDepth 100000
set_option maxHeartbeats 4000000
namespace K02
open PySem PySem.Spec PyProof.Rows L2 TL Qh
theorem all_mk {l : PySem.W.OpenLaw} {w : World} {K : PySem.W.Frag} {h : Heap} {mg : Str → Option Value} {fa : Addr} (X : K.In h) (G : h.Ns mainGlobals mg) (hfa : mg "law" = some (.ref fa))
    {tM : _}
    {f1 : Addr} {oc1 kV1 dc1 pm1 cd1 ct1 : Value} {od1 an1 : Option Addr} {sl1 : Array (Option Value)}
    {f2 : Addr} {oc2 kV2 dc2 pm2 cd2 ct2 : Value} {od2 an2 : Option Addr} {sl2 : Array (Option Value)}
    {f3 : Addr} {oc3 kV3 dc3 pm3 cd3 ct3 : Value} {od3 an3 : Option Addr} {sl3 : Array (Option Value)}
    {f4 : Addr} {oc4 kV4 dc4 pm4 cd4 ct4 : Value} {od4 an4 : Option Addr} {sl4 : Array (Option Value)}
    {f5 : Addr} {oc5 kV5 dc5 pm5 cd5 ct5 : Value} {od5 an5 : Option Addr} {sl5 : Array (Option Value)}
    {f6 : Addr} {oc6 kV6 dc6 pm6 cd6 ct6 : Value} {od6 an6 : Option Addr} {sl6 : Array (Option Value)}
    {f7 : Addr} {oc7 kV7 dc7 pm7 cd7 ct7 : Value} {od7 an7 : Option Addr} {sl7 : Array (Option Value)}
    {f8 : Addr} {oc8 kV8 dc8 pm8 cd8 ct8 : Value} {od8 an8 : Option Addr} {sl8 : Array (Option Value)}
    {f9 : Addr} {oc9 kV9 dc9 pm9 cd9 ct9 : Value} {od9 an9 : Option Addr} {sl9 : Array (Option Value)}
    {f10 : Addr} {oc10 kV10 dc10 pm10 cd10 ct10 : Value} {od10 an10 : Option Addr} {sl10 : Array (Option Value)}
    {f11 : Addr} {oc11 kV11 dc11 pm11 cd11 ct11 : Value} {od11 an11 : Option Addr} {sl11 : Array (Option Value)}
    {f12 : Addr} {oc12 kV12 dc12 pm12 cd12 ct12 : Value} {od12 an12 : Option Addr} {sl12 : Array (Option Value)}
    {f13 : Addr} {oc13 kV13 dc13 pm13 cd13 ct13 : Value} {od13 an13 : Option Addr} {sl13 : Array (Option Value)}
    {f14 : Addr} {oc14 kV14 dc14 pm14 cd14 ct14 : Value} {od14 an14 : Option Addr} {sl14 : Array (Option Value)}
    {CQ : Addr}
    {C : Addr}
    {f15 : Addr} {oc15 kV15 dc15 pm15 cd15 ct15 : Value} {od15 an15 : Option Addr} {sl15 : Array (Option Value)}
    (a1 : PySem.W.nsIn K mainGlobals "is_letters" = some (some (.ref f1))) (l1 : K.lookup f1 = some ⟨oc1, od1, .func (PySem.W.fnOf "is_letters" "is_letters" (defArgs sLetters) (defBody sLetters) (defScope sLetters) .none kV1 dc1 pm1 an1 cd1 ct1), sl1⟩) (c1 : PySem.W.codeIn K cd1 "is_letters" = true) (k1 : PySem.W.keepIn K (.ref f1) = true)
    (a2 : PySem.W.nsIn K mainGlobals "is_word" = some (some (.ref f2))) (l2 : K.lookup f2 = some ⟨oc2, od2, .func (PySem.W.fnOf "is_word" "is_word" (defArgs sIsWord) (defBody sIsWord) (defScope sIsWord) .none kV2 dc2 pm2 an2 cd2 ct2), sl2⟩) (c2 : PySem.W.codeIn K cd2 "is_word" = true) (k2 : PySem.W.keepIn K (.ref f2) = true)
    (a3 : PySem.W.nsIn K mainGlobals "words_of" = some (some (.ref f3))) (l3 : K.lookup f3 = some ⟨oc3, od3, .func (PySem.W.fnOf "words_of" "words_of" (defArgs sWordsOf) (defBody sWordsOf) (defScope sWordsOf) .none kV3 dc3 pm3 an3 cd3 ct3), sl3⟩) (c3 : PySem.W.codeIn K cd3 "words_of" = true) (k3 : PySem.W.keepIn K (.ref f3) = true)
    (a4 : PySem.W.nsIn K mainGlobals "text_of" = some (some (.ref f4))) (l4 : K.lookup f4 = some ⟨oc4, od4, .func (PySem.W.fnOf "text_of" "text_of" (defArgs sTextOf) (defBody sTextOf) (defScope sTextOf) .none kV4 dc4 pm4 an4 cd4 ct4), sl4⟩) (c4 : PySem.W.codeIn K cd4 "text_of" = true) (k4 : PySem.W.keepIn K (.ref f4) = true)
    (a5 : PySem.W.nsIn K mainGlobals "_law_pen" = some (some (.ref f5))) (l5 : K.lookup f5 = some ⟨oc5, od5, .func (PySem.W.fnOf "_law_pen" "_law_pen" (defArgs sPen) (defBody sPen) (defScope sPen) .none kV5 dc5 pm5 an5 cd5 ct5), sl5⟩) (c5 : PySem.W.codeIn K cd5 "_law_pen" = true) (k5 : PySem.W.keepIn K (.ref f5) = true)
    (a6 : PySem.W.nsIn K mainGlobals "_law_draw" = some (some (.ref f6))) (l6 : K.lookup f6 = some ⟨oc6, od6, .func (PySem.W.fnOf "_law_draw" "_law_draw" (defArgs sDraw) (defBody sDraw) (defScope sDraw) .none kV6 dc6 pm6 an6 cd6 ct6), sl6⟩) (c6 : PySem.W.codeIn K cd6 "_law_draw" = true) (k6 : PySem.W.keepIn K (.ref f6) = true)
    (a7 : PySem.W.nsIn K mainGlobals "_law_pick" = some (some (.ref f7))) (l7 : K.lookup f7 = some ⟨oc7, od7, .func (PySem.W.fnOf "_law_pick" "_law_pick" (defArgs sPick) (defBody sPick) (defScope sPick) .none kV7 dc7 pm7 an7 cd7 ct7), sl7⟩) (c7 : PySem.W.codeIn K cd7 "_law_pick" = true) (k7 : PySem.W.keepIn K (.ref f7) = true)
    (a8 : PySem.W.nsIn K mainGlobals "_law_string" = some (some (.ref f8))) (l8 : K.lookup f8 = some ⟨oc8, od8, .func (PySem.W.fnOf "_law_string" "_law_string" (defArgs sString) (defBody sString) (defScope sString) .none kV8 dc8 pm8 an8 cd8 ct8), sl8⟩) (c8 : PySem.W.codeIn K cd8 "_law_string" = true) (k8 : PySem.W.keepIn K (.ref f8) = true)
    (a9 : PySem.W.nsIn K mainGlobals "_law_is_word" = some (some (.ref f9))) (l9 : K.lookup f9 = some ⟨oc9, od9, .func (PySem.W.fnOf "_law_is_word" "_law_is_word" (defArgs sLawIsWord) (defBody sLawIsWord) (defScope sLawIsWord) .none kV9 dc9 pm9 an9 cd9 ct9), sl9⟩) (c9 : PySem.W.codeIn K cd9 "_law_is_word" = true) (k9 : PySem.W.keepIn K (.ref f9) = true)
    (a10 : PySem.W.nsIn K mainGlobals "_law_plain" = some (some (.ref f10))) (l10 : K.lookup f10 = some ⟨oc10, od10, .func (PySem.W.fnOf "_law_plain" "_law_plain" (defArgs sPlain) (defBody sPlain) (defScope sPlain) .none kV10 dc10 pm10 an10 cd10 ct10), sl10⟩) (c10 : PySem.W.codeIn K cd10 "_law_plain" = true) (k10 : PySem.W.keepIn K (.ref f10) = true)
    (a11 : PySem.W.nsIn K mainGlobals "_law_heard" = some (some (.ref f11))) (l11 : K.lookup f11 = some ⟨oc11, od11, .func (PySem.W.fnOf "_law_heard" "_law_heard" (defArgs sHeard) (defBody sHeard) (defScope sHeard) .none kV11 dc11 pm11 an11 cd11 ct11), sl11⟩) (c11 : PySem.W.codeIn K cd11 "_law_heard" = true) (k11 : PySem.W.keepIn K (.ref f11) = true)
    (a12 : PySem.W.nsIn K mainGlobals "_law_due" = some (some (.ref f12))) (l12 : K.lookup f12 = some ⟨oc12, od12, .func (PySem.W.fnOf "_law_due" "_law_due" (defArgs sDue) (defBody sDue) (defScope sDue) .none kV12 dc12 pm12 an12 cd12 ct12), sl12⟩) (c12 : PySem.W.codeIn K cd12 "_law_due" = true) (k12 : PySem.W.keepIn K (.ref f12) = true)
    (a13 : PySem.W.nsIn K mainGlobals "_law_spoilt" = some (some (.ref f13))) (l13 : K.lookup f13 = some ⟨oc13, od13, .func (PySem.W.fnOf "_law_spoilt" "_law_spoilt" (defArgs sSpoilt) (defBody sSpoilt) (defScope sSpoilt) .none kV13 dc13 pm13 an13 cd13 ct13), sl13⟩) (c13 : PySem.W.codeIn K cd13 "_law_spoilt" = true) (k13 : PySem.W.keepIn K (.ref f13) = true)
    (a14 : PySem.W.nsIn K mainGlobals "law" = some (some (.ref f14))) (l14 : K.lookup f14 = some ⟨oc14, od14, .func (PySem.W.fnOf "law" "law" (defArgs sLaw) (defBody sLaw) (defScope sLaw) .none kV14 dc14 pm14 an14 cd14 ct14), sl14⟩) (c14 : PySem.W.codeIn K cd14 "law" = true) (k14 : PySem.W.keepIn K (.ref f14) = true)
    (gCQ : PySem.W.nsIn K mainGlobals "QuoteError" = some (some (.ref CQ)))
    (gC : PySem.W.nsIn K mainGlobals "InvalidText" = some (some (.ref C)))
    (a15 : PySem.W.findIn K (.ref C) "__init__" = some (some (.ref f15))) (t15 : PySem.W.typeIn K (.ref f15) = some (.type "function")) (l15 : K.lookup f15 = some ⟨oc15, od15, .func (PySem.W.fnOf "__init__" "InvalidText.__init__" (defArgs sErrInit) (defBody sErrInit) (defScope sErrInit) .none kV15 dc15 pm15 an15 cd15 ct15), sl15⟩) (c15 : PySem.W.codeIn K cd15 "InvalidText.__init__" = true) (k15 : PySem.W.keepIn K (.ref f15) = true)
    (x1C : oexB K C = true)
    (x2C : oex2B K C = true)
    (x3C : xfB K C = true)
    (x4C : ecB K C = true)
    (fr : freeB K bltNames = true)
    (ex : PySem.W.exmOne K (.ref C) (.ref CQ) = some true)
    (ki : PySem.W.kitOne K (.ref C) (.ref C) = some true)
    (gM : PySem.W.nsIn K mainGlobals "MOST_LETTERS" = some (some (.int 10 tM)))
    (no : PySem.W.findIn K (.ref C) "index" = some none) :
    ∃ fd : FuncData, (∀ (s : Shared) (v : Value), BindsTo s fd ⟨[v], []⟩ [("_law_script", v)]) ∧ ∀ base : Heap, K.In base → base.Ns mainGlobals mg → FnG l.prog w K mg base (L2.CX l.prog w) 5 fa fd ["_law_script"] (spLaw K) := by
  have e := hfa.symm.trans (PySem.W.mg_of X G a14)
  cases e
  have Fn1 : Fun K "is_letters" "is_letters" sLetters f1 _ := fun_mk (st := sLetters) l1 c1 k1
  have D_is_letters : DefIn K mg "is_letters" sLetters := ⟨⟨f1, _, Fn1, PySem.W.mg_of X G a1⟩⟩
  have Fn2 : Fun K "is_word" "is_word" sIsWord f2 _ := fun_mk (st := sIsWord) l2 c2 k2
  have D_is_word : DefIn K mg "is_word" sIsWord := ⟨⟨f2, _, Fn2, PySem.W.mg_of X G a2⟩⟩
  have Fn3 : Fun K "words_of" "words_of" sWordsOf f3 _ := fun_mk (st := sWordsOf) l3 c3 k3
  have D_words_of : DefIn K mg "words_of" sWordsOf := ⟨⟨f3, _, Fn3, PySem.W.mg_of X G a3⟩⟩
  have Fn4 : Fun K "text_of" "text_of" sTextOf f4 _ := fun_mk (st := sTextOf) l4 c4 k4
  have D_text_of : DefIn K mg "text_of" sTextOf := ⟨⟨f4, _, Fn4, PySem.W.mg_of X G a4⟩⟩
  have Fn5 : Fun K "_law_pen" "_law_pen" sPen f5 _ := fun_mk (st := sPen) l5 c5 k5
  have D__law_pen : DefIn K mg "_law_pen" sPen := ⟨⟨f5, _, Fn5, PySem.W.mg_of X G a5⟩⟩
  have Fn6 : Fun K "_law_draw" "_law_draw" sDraw f6 _ := fun_mk (st := sDraw) l6 c6 k6
  have D__law_draw : DefIn K mg "_law_draw" sDraw := ⟨⟨f6, _, Fn6, PySem.W.mg_of X G a6⟩⟩
  have Fn7 : Fun K "_law_pick" "_law_pick" sPick f7 _ := fun_mk (st := sPick) l7 c7 k7
  have D__law_pick : DefIn K mg "_law_pick" sPick := ⟨⟨f7, _, Fn7, PySem.W.mg_of X G a7⟩⟩
  have Fn8 : Fun K "_law_string" "_law_string" sString f8 _ := fun_mk (st := sString) l8 c8 k8
  have D__law_string : DefIn K mg "_law_string" sString := ⟨⟨f8, _, Fn8, PySem.W.mg_of X G a8⟩⟩
  have Fn9 : Fun K "_law_is_word" "_law_is_word" sLawIsWord f9 _ := fun_mk (st := sLawIsWord) l9 c9 k9
  have D__law_is_word : DefIn K mg "_law_is_word" sLawIsWord := ⟨⟨f9, _, Fn9, PySem.W.mg_of X G a9⟩⟩
  have Fn10 : Fun K "_law_plain" "_law_plain" sPlain f10 _ := fun_mk (st := sPlain) l10 c10 k10
  have D__law_plain : DefIn K mg "_law_plain" sPlain := ⟨⟨f10, _, Fn10, PySem.W.mg_of X G a10⟩⟩
  have Fn11 : Fun K "_law_heard" "_law_heard" sHeard f11 _ := fun_mk (st := sHeard) l11 c11 k11
  have D__law_heard : DefIn K mg "_law_heard" sHeard := ⟨⟨f11, _, Fn11, PySem.W.mg_of X G a11⟩⟩
  have Fn12 : Fun K "_law_due" "_law_due" sDue f12 _ := fun_mk (st := sDue) l12 c12 k12
  have D__law_due : DefIn K mg "_law_due" sDue := ⟨⟨f12, _, Fn12, PySem.W.mg_of X G a12⟩⟩
  have Fn13 : Fun K "_law_spoilt" "_law_spoilt" sSpoilt f13 _ := fun_mk (st := sSpoilt) l13 c13 k13
  have D__law_spoilt : DefIn K mg "_law_spoilt" sSpoilt := ⟨⟨f13, _, Fn13, PySem.W.mg_of X G a13⟩⟩
  have Fn14 : Fun K "law" "law" sLaw fa _ := fun_mk (st := sLaw) l14 c14 k14
  have mCQ : mg "QuoteError" = some (.ref CQ) := PySem.W.mg_of X G gCQ
  have mC : mg "InvalidText" = some (.ref C) := PySem.W.mg_of X G gC
  have Fn15 : Fun K "__init__" "InvalidText.__init__" sErrInit f15 _ := fun_mk (st := sErrInit) l15 c15 k15
  have biC : Binds K _ ["self", "index"] [] := Fn15.binds (ps := ["self", "index"]) fun _ _ _ _ _ _ us hl => match us, hl with | [_, _], _ => rfl
  have EC : ErrC K mg "InvalidText" C := errC_of mC x1C x2C x3C x4C
  have B : Blt mg := blt_of X G fr
  refine ⟨PySem.W.fnOf "law" "law" (defArgs sLaw) (defBody sLaw) (defScope sLaw) .none kV14 dc14 pm14 an14 cd14 ct14, fun s v => .of_eq rfl, fun base _ _ => ?_⟩

  have hM : ∃ t, mg "MOST_LETTERS" = some (.int 10 t) := ⟨_, PySem.W.mg_of X G gM⟩
  have T : Err1 l.prog w K mg base "InvalidText" "index" C := ⟨EC, no, ⟨_, _, a15, t15, biC, ok_errInit Fn15 EC.o no⟩⟩
  have pen := ok_pen (P := l.prog) (w := w) (base := base) D__law_pen B
  have draw := ok_draw (P := l.prog) (w := w) (base := base) D__law_draw B
  have pick := ok_pick D__law_pick B draw
  have letters := ok_letters (P := l.prog) (w := w) (base := base) D_is_letters B
  have isWord := ok_isWord D_is_word hM letters
  have wordsOf := ok_wordsOf D_words_of B hM T letters isWord
  have textOf := ok_textOf (P := l.prog) (w := w) (base := base) D_text_of
  have string := ok_string D__law_string B draw pick
  have plain := ok_plain D__law_plain B draw pick
  have lawIsWord := ok_lawIsWord (P := l.prog) (w := w) (base := base) D__law_is_word B
  have heard := ok_heard D__law_heard B T mCQ ex ki wordsOf
  have due := ok_due D__law_due B lawIsWord
  have spoilt := ok_spoilt D__law_spoilt B draw pick string
  exact ok_law Fn14 B pen draw string isWord lawIsWord plain heard wordsOf textOf spoilt due
theorem walk {l : PySem.W.OpenLaw} {q : Program} {loose : List Str} {XP : (Str → Option Value) → Heap → Prop} {YP : World → Heap → Prop} {d : DefRec} {K : Params → PySem.W.Frag} (hn : l.most = some 63) (hdf : d.params.defaults = [])
    (hY : ∀ (w : World) (h : Heap), YP w h → (K w.params).In h)
    (F : ∀ (w : World) (mg : Str → Option Value) (fa : Addr) (h : Heap), (K w.params).In h → h.Ns mainGlobals mg → mg d.name = some (.ref fa) →
      ∃ fd : FuncData, (∀ (s : Shared) (u : Value), BindsTo s fd ⟨[u], []⟩ [("_law_script", u)]) ∧ ∀ base : Heap, (K w.params).In base → base.Ns mainGlobals mg → FnG l.prog w (K w.params) mg base (L2.CX l.prog w) 5 fa fd ["_law_script"] (spLaw (K w.params))) :
    PySem.W.WalkO q loose XP YP l.row.toRowW d [] (fun f vs => PySem.call f vs) :=
  Qh.walk_ofG (n := 63) (k := 5) (x := "_law_script") (CX := fun w => L2.CX l.prog w) (sp := fun w => spLaw (K w.params)) hn (by decide) hdf ⟨rfl, by decide, by decide⟩ hY F (fun _ _ a ns _ _ hS => ⟨a, ns, rfl, hS, fun _ => rfl⟩) fun _ _ _ _ _ h => by
    obtain ⟨_, _, _, _, _, _, _, _, _, _, _, _, z⟩ := h
    exact z.elim
end K02
open PySem PySem.W PyProof.Rows
set_option maxRecDepth 100000 in
set_option maxHeartbeats 0 in
theorem PySem.Challenge.cw_quotehome_k02_words_and_texts_holds : PySem.Challenge.rw_quotehome_k02_words_and_texts.Holds := by
  w_on; o_law; k_head; (case hw => w_witness2)
  k_fill
  refine K02.walk (l := PySem.Challenge.rw_quotehome_k02_words_and_texts) rfl rfl (fun w h Y => PySem.W.kIn_of Y) ?F
  case F =>
    intro w mg fa h KX G hmg
    refine' K02.all_mk KX G hmg ?a1 ?l1 ?c1 ?k1 ?a2 ?l2 ?c2 ?k2 ?a3 ?l3 ?c3 ?k3 ?a4 ?l4 ?c4 ?k4 ?a5 ?l5 ?c5 ?k5 ?a6 ?l6 ?c6 ?k6 ?a7 ?l7 ?c7 ?k7 ?a8 ?l8 ?c8 ?k8 ?a9 ?l9 ?c9 ?k9 ?a10 ?l10 ?c10 ?k10 ?a11 ?l11 ?c11 ?k11 ?a12 ?l12 ?c12 ?k12 ?a13 ?l13 ?c13 ?k13 ?a14 ?l14 ?c14 ?k14 ?gCQ ?gC ?a15 ?t15 ?l15 ?c15 ?k15 ?x1C ?x2C ?x3C ?x4C ?fr ?ex ?ki ?gM ?no
    (case a1 => k_is)
    (case l1 => k_is)
    (case c1 => k_is)
    (case k1 => k_is)
    (case a2 => k_is)
    (case l2 => k_is)
    (case c2 => k_is)
    (case k2 => k_is)
    (case a3 => k_is)
    (case l3 => k_is)
    (case c3 => k_is)
    (case k3 => k_is)
    (case a4 => k_is)
    (case l4 => k_is)
    (case c4 => k_is)
    (case k4 => k_is)
    (case a5 => k_is)
    (case l5 => k_is)
    (case c5 => k_is)
    (case k5 => k_is)
    (case a6 => k_is)
    (case l6 => k_is)
    (case c6 => k_is)
    (case k6 => k_is)
    (case a7 => k_is)
    (case l7 => k_is)
    (case c7 => k_is)
    (case k7 => k_is)
    (case a8 => k_is)
    (case l8 => k_is)
    (case c8 => k_is)
    (case k8 => k_is)
    (case a9 => k_is)
    (case l9 => k_is)
    (case c9 => k_is)
    (case k9 => k_is)
    (case a10 => k_is)
    (case l10 => k_is)
    (case c10 => k_is)
    (case k10 => k_is)
    (case a11 => k_is)
    (case l11 => k_is)
    (case c11 => k_is)
    (case k11 => k_is)
    (case a12 => k_is)
    (case l12 => k_is)
    (case c12 => k_is)
    (case k12 => k_is)
    (case a13 => k_is)
    (case l13 => k_is)
    (case c13 => k_is)
    (case k13 => k_is)
    (case a14 => k_is)
    (case l14 => k_is)
    (case c14 => k_is)
    (case k14 => k_is)
    (case gCQ => k_is)
    (case gC => k_is)
    (case a15 => k_is)
    (case t15 => k_is)
    (case l15 => k_is)
    (case c15 => k_is)
    (case k15 => k_is)
    (case x1C => kernel_rfl)
    (case x2C => kernel_rfl)
    (case x3C => kernel_rfl)
    (case x4C => kernel_rfl)
    (case fr => kernel_rfl)
    (case ex => kernel_rfl)
    (case ki => kernel_rfl)
    (case gM => k_is)
    (case no => k_is)
