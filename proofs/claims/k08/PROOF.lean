import PyProof.Rows.All
import Wide.All
import OpenK.AllK
import Wide.FinOn
import HandS.ForMost
import HandS.ForExc
import HandS.ExcInit
import HandS.ExcIs
import HandS.Deep
import HandS.Defaults
import HandS.ExcField
import HandS.ExcValue
import KE.KExcIs
import HandS.Text
import HandS.TupLe
import HandS.IsInst
import HandS.Steps
import HandS.Walk
import HandS.StrMore
import HandS.FStrTup
import HandS.More
import HandS.Set
import HandS.Sort
import KE.KExcInit
import HandS.Star
import HandS.ClsMeth
import HandS.TryOnly
import HandS.ReplaceLit
import HandS.ReplaceList
import HandS.SlotsOwn
import HandS.RaiseMore
import KE.KCallOwn
import PyProof.InstNe
import HandS.New0
import HandS.FStr
import HandS.Style
import PySem.Challenge.RW_quotehome_k08_rules_made
set_option Elab.async false
set_option linter.all false
set_option maxRecDepth 100000
set_option maxHeartbeats 4000000
/-! Calls where no repr is under way (guards): the def's promise, its body, its call, the law's end. -/
namespace Qh
open PySem PySem.Spec PyProof.Rows L2
section
variable {P : Program} {w : World} {K : PySem.W.Frag} {mg : Str → Option Value} {base : Heap} {CX : CXT} {k : Nat} {f : Addr} {fd : FuncData} {ps : List Str} {sp : Sp}

/-- one call of f, at the around A -/
def RunAt (P : Program) (w : World) (K : PySem.W.Frag) (mg : Str → Option Value) (base : Heap) (CX : CXT) (k : Nat) (f : Addr) (fd : FuncData) (ps : List Str) (sp : Sp) (A : Around) : Prop :=
  ∀ (out : List Env) (t : Shared) (G : Hp) (xs : Args) (us : List Value) (vs : List V) (Q : VK) (E : XK),
    Room k A → Env0 P w K mg base A out t G → BindsTo t fd xs (ps.zip us) → Vals vs us → sp vs G Q E →
      codeAny (model P w) A (.call (.ref f) xs) (CR CX out P w G t Q E) t

/-- the promise of a def that is called where no repr is under way -/
structure FnG (P : Program) (w : World) (K : PySem.W.Frag) (mg : Str → Option Value) (base : Heap) (CX : CXT) (k : Nat) (f : Addr) (fd : FuncData) (ps : List Str) (sp : Sp) : Prop where
  len : ∀ vs G Q E, sp vs G Q E → vs.length = ps.length
  run : ∀ A : Around, A.guards = some [] → RunAt P w K mg base CX k f fd ps sp A

theorem FnG.of (F : FnOk P w K mg base CX k f fd ps sp) : FnG P w K mg base CX k f fd ps sp :=
  ⟨F.len, fun A _ out t G xs us vs Q E hr e0 hb r h => F.run A out t G xs us vs Q E hr e0 hb r h⟩

theorem runAt_of {A : Around} {name qual : Str} {params : Arguments} {body : List Stmt} {scope : Scope} {dV kV doc pm cdv ct oc : Value} {an od : Option Addr} {osl : Array (Option Value)} {N : List Str}
    (lk : K.lookup f = some ⟨oc, od, .func (PySem.W.fnOf name qual params body scope dV kV doc pm an cdv ct), osl⟩)
    (hcd : PySem.W.codeIn K cdv qual = true) (S : FnScope N ps scope)
    (len : ∀ vs G Q E, sp vs G Q E → vs.length = ps.length)
    (hbody : ∀ (out : List Env) (t : Shared) (G : Hp) (vs : List V) (Q : VK) (E : XK),
      Room k (A.deeper (envOfC qual scope t.heap.objs.size f cdv)) → sp vs G Q E →
      ∃ rd, PSs (cxOf CX P w K mg base N qual scope f cdv A out t G E) body rd ∧ rd { nx := fun _ G' => Q .non G', rt := Q } (start N vs) G) :
    RunAt P w K mg base CX (k + 1) f (PySem.W.fnOf name qual params body scope dV kV doc pm an cdv ct) ps sp A := by
  intro out t G xs us vs Q E room e0 binds rel want
  have kin : K.In t.heap := e0.mod.kin.keeps fun a o h => (e0.bs a o h).1
  have nolim : t.heap.NoLimit := e0.mod.nolimit.keeps fun a o h => (e0.bs a o h).1
  have kinds : ∀ y ∈ ps.zip us, scope.names.lookup y.1 = some .local ∨ (scope.names.lookup y.1 = some .cell ∧
      ((cellsFrom (t.heap.objs.size + 1) scope.names []).lookup y.1).isSome = true) := by
    rintro ⟨n, v⟩ hy
    cases S.par n (List.of_mem_zip hy).1 with
    | inl q => exact Or.inl q
    | inr q => exact Or.inr ⟨q, PySem.W.cellsFrom_some _ _ _ (.inl q)⟩
  refine codeAny_call_function room.depth (kin _ _ lk) rfl S.co S.gen rfl (PySem.W.codeRec_of kin hcd) (binds _ _ _ _ ?_)
  refine wpAny_newFunctionEnv_cells S.kind kinds fun env he s1 inside => ?_
  subst he
  refine ⟨nolim.keeps inside.toInCall.keep, codeAny_func ?_⟩
  obtain ⟨rd, hrd, hq⟩ := hbody out t G vs Q E (room.deeper _) want
  have I := inv_start (CX := CX) (E := E) S room.hd e0 (len _ _ _ _ want) rel inside
  refine wpAny_mono (hrd.run [] s1 (start N vs) G _ I hq) ?_ (fun _ _ z => z)
  intro flow s2 hs
  cases flow with
  | ret u =>
    obtain ⟨v, σ', G', J, rv, q⟩ := hs
    exact ⟨v, G', J.os, J.bare, J.base, J.hok, rv, q⟩
  | next =>
    obtain ⟨σ', G', J, q⟩ := hs
    exact ⟨V.non, G', J.os, J.bare, J.base, J.hok, rfl, q⟩
  | brk => exact (hs.elim fun _ z => z.elim fun _ z => z.2).elim
  | cont => exact (hs.elim fun _ z => z.elim fun _ z => z.2).elim

theorem okG {x qual : Str} {st : Stmt} {N : List Str} (F : Fun K x qual st f fd) (S : FnScope N ps (defScope st)) (len : ∀ vs G Q E, sp vs G Q E → vs.length = ps.length)
    (hbody : ∀ (cdv : Value) (A : Around) (out : List Env) (t : Shared) (G : Hp) (vs : List V) (Q : VK) (E : XK), A.guards = some [] →
      Room k (A.deeper (envOfC qual (defScope st) t.heap.objs.size f cdv)) → sp vs G Q E →
      ∃ rd, PSs (cxOf CX P w K mg base N qual (defScope st) f cdv A out t G E) (defBody st) rd ∧ rd { nx := fun _ G' => Q .non G', rt := Q } (start N vs) G) :
    FnG P w K mg base CX (k + 1) f fd ps sp := by
  obtain ⟨oc, od, kV, doc, pm, an, cdv, ct, osl, rfl, lk, hcd⟩ := F.ex
  exact ⟨len, fun A hg => runAt_of lk hcd S len fun out t G vs Q E room want => hbody cdv A out t G vs Q E hg room want⟩
end
section
variable {X : Cx} {CX : CXT} {k : Nat} {f : Addr} {fd : FuncData} {ps : List Str} {sp : Sp} {dvs : List V} {ds : List Value} {E : XK} {x : Str} {p pos : Pos} {e : Expr} {es : List Expr} {t : TA}
theorem run_g {pins : List (Addr × Obj)} {σ : L2.St} {G : Hp} {s : Shared} {Q : VK} {us : List Value} {vs : List V} (F : FnG X.prog X.w X.K X.mg X.base CX k f fd ps sp) (gu : X.A.guards = some [])
    (hr : Room k X.A) (hb : Binds X.K fd ps ds) (hd : Vals dvs ds) (hx : Passes CX X E) (I : Inv X pins σ G s) (r : Vals vs us) (h : sp (vs ++ dvs) G Q E) :
    wpAny (model X.prog X.w) X.A (call (.ref f) us) (EP X pins σ Q) X.xe s := by
  have rr := r.append hd
  have count : (us ++ ds).length = ps.length := rr.length ▸ F.len _ _ _ _ h
  refine wpAny_call (codeAny_mono (F.run X.A gu X.stack s G ⟨us, []⟩ (us ++ ds) (vs ++ dvs) Q E hr I.env0 (hb s us I.kIn count) rr h) ?_)
  rintro (e | fl) s' hq
  · exact hx pins σ G s e s' I hq
  · cases fl with
    | ret u => exact I.after hq
    | next => exact hq.elim
    | brk => exact hq.elim
    | cont => exact hq.elim
/-- f(e, ..) -/
theorem pe_callG (F : FnG X.prog X.w X.K X.mg X.base CX k f fd ps sp) (gu : X.A.guards = some []) (hr : Room k X.A) (hg : Gl X x) (hm : X.mg x = some (.ref f)) (hk : PySem.W.keepIn X.K (.ref f) = true)
    (hb : Binds X.K fd ps ds) (hd : Vals dvs ds) (hx : Passes CX X E) (ha : PA X (e :: es) t) (hdb : (x == ("__debug__" : Str)) = false := by decide)
    (he : starEach (e :: es) X.env = (false, eval e X.env) :: starEach es X.env := by rfl) (hpl : (backTo pos (starEach es X.env)).any (·.1) = false := by rfl) :
    PE X (.Call (.Name x p) (e :: es) [] pos) (tCall sp dvs E t) := by
  constructor
  intro pins s σ G Q I h
  refine wpAny_Call_Name_kw (ld_glob I hg hm ?_ hdb)
  refine PySem.W.callWith_K (h₀ := X.base) I.ok.mod.kin hk (thn (ha.run pos pins s σ G _ I h) ?_) he hpl
  rintro us s1 ⟨vs, G1, I1, r, q⟩
  exact ⟨I1.kIn, run_g F gu hr hb hd hx I1 r q⟩
end

/-! ### the law's end -/
theorem law_callG {P : Program} {w : World} {K : PySem.W.Frag} {mg mb : Str → Option Value} {CX : CXT} {k : Nat} {fa a : Addr} {fd : FuncData} {x : Str} {sp : Sp} {t : Shared} {vs : List Value} {ns : List Int}
    (kin : K.In t.heap) (hns : t.heap.Ns mainGlobals mg) (hb : t.heap.Ns builtinsNs mb) (hbb : ∀ x : Str, x ≠ "__name__" → mb x = bootBuiltins x) (hlim : t.heap.NoLimit) (hgen : t.gens = #[])
    (ha : t.heap.get? a = some { cls := .type "list", data := .seq vs.toArray }) (hi : IntsAre vs ns) (hl : ns.length ≤ sizeLine) (room : Room k callerA)
    (F : ∀ base : Heap, K.In base → base.Ns mainGlobals mg → FnG P w K mg base CX k fa fd [x] sp) (hbind : ∀ (s : Shared) (u : Value), BindsTo s fd ⟨[u], []⟩ [(x, u)])
    (hsp : ∀ G : Hp, Only G → SqL K G a (ns.map V.int) → sp [.ref a] G (fun v _ => v = .bl true) fun _ _ _ => False)
    (hCX : ∀ G e s', CX [] G t (fun _ _ _ => False) e s' → False) :
    codeAny (model P w) callerA (.call (.ref fa) ⟨[.ref a], []⟩) (fun r s' => r = .ok (.ret (.bool true)) ∧ OldK t.heap s'.heap ∧ s'.os = t.os ∧ AllBare s'.gens) t := by
  have rel := L2.vals_ints hi
  have count := hi.length
  have none_in : ∀ b : Addr, b ∉ frs ([] : List Env) := fun b h => (by simpa [frs] using h)
  -- G tracks nothing but, perhaps, the script
  have main : ∀ G : Hp, Only G → SqL K G a (ns.map V.int) → HOk P w G t.heap → (∀ b u, G b = some u → b = a ∧ K.lookup a = none) →
      codeAny (model P w) callerA (.call (.ref fa) ⟨[.ref a], []⟩) (fun r s' => r = .ok (.ret (.bool true)) ∧ OldK t.heap s'.heap ∧ s'.os = t.os ∧ AllBare s'.gens) t := by
    intro G only seq hok which
    have plain : ∀ {b : Addr} {m : Str → Option Value}, t.heap.Ns b m → (hidT t.heap G).Ns b m := by
      rintro b m ⟨o, es, ep, e, d, r⟩
      refine ⟨o, es, ep, hidT_get e ?_, d, r⟩
      cases q : G b with
      | none => rfl
      | some u =>
        obtain ⟨rfl, _⟩ := which b u q
        rw [ha] at e
        injection e with e
        subst e
        cases d
    have kinB : K.In (hidT t.heap G) := fun b o e => hidT_get (kin b o e) (by
      cases q : G b with
      | none => rfl
      | some u =>
        obtain ⟨rfl, z⟩ := which b u q
        rw [z] at e
        cases e)
    have modB : Mod K mg (hidT t.heap G) := ⟨kinB, plain hns, ⟨mb, plain hb, hbb⟩, by
      obtain ⟨mc, h1, h2⟩ := hlim
      exact ⟨mc, plain h1, h2⟩⟩
    have start0 : Env0 P w K mg (hidT t.heap G) callerA [] t G :=
      { frames := rfl, mod := modB, bs := fun b o e => of_hidT e, bsz := Nat.le_of_eq (hidT_size _ _), funs := trivial, frf := fun b h => absurd h (none_in b), hok := hok, bare := .of_eq hgen }
    refine codeAny_mono ((F _ kinB (plain hns)).run callerA rfl [] t G ⟨[.ref a], []⟩ [.ref a] [.ref a] _ _ room start0 (hbind t (.ref a)) (.cons rfl .nil) (hsp G only seq)) ?_
    rintro (e | fl) s' h
    · exact (hCX G e s' h).elim
    · cases fl with
      | next => exact h.elim
      | brk => exact h.elim
      | cont => exact h.elim
      | ret u =>
        obtain ⟨v, G', hos, bare, un, hok', ru, rfl⟩ := h
        have ru' : u = Value.bool true := ru
        subst ru'
        refine ⟨rfl, OldK.of_keep fun b o e => ?_, hos, bare⟩
        cases q : G b with
        | none => exact un.keep b o e q (none_in b) (by simp)
        | some u =>
          obtain z | ⟨ob, xs, z⟩ := only b
          · rw [q] at z
            cases z
          · have e1 := (hok b _ z).1
            have e2 := (hok' b _ (un.frzs b ob _ z)).1
            rw [e] at e1
            injection e1 with e1
            rw [e1]
            exact e2
  have size : (ns.map V.int).length ≤ sizeLine := by
    rw [List.length_map]
    exact hl
  cases hk : K.lookup a with
  | some o =>
    have e := kin a o hk
    rw [ha] at e
    injection e with e
    subst e
    refine main (fun _ => none) (fun _ => Or.inl rfl) (Or.inr ⟨_, vs.toArray, _, hk, rfl, rfl, rfl, ?_, ?_⟩) (fun b u z => nomatch z) (fun b u z => nomatch z)
    · rw [List.size_toArray, count]
      exact hl
    · rw [List.toList_toArray]
      exact rel
  | none =>
    have at_a : ∀ {b : Addr} {u : HO}, (if b = a then some (HO.frz { cls := .type "list", data := .seq vs.toArray } (.lst (ns.map V.int))) else none) = some u →
        b = a ∧ u = HO.frz { cls := .type "list", data := .seq vs.toArray } (.lst (ns.map V.int)) := by
      intro b u z
      split at z
      · rename_i hb
        injection z with z
        exact ⟨hb, z.symm⟩
      · cases z
    refine main (fun b => if b = a then some (.frz { cls := .type "list", data := .seq vs.toArray } (.lst (ns.map V.int))) else none) ?_ (Or.inl (Or.inr ⟨_, if_pos rfl⟩)) ?_ (fun b u z => ⟨(at_a z).1, hk⟩)
    · intro b
      by_cases hb : b = a
      · exact Or.inr ⟨_, _, if_pos hb⟩
      · exact Or.inl (if_neg hb)
    · intro b u z
      obtain ⟨rfl, rfl⟩ := at_a z
      exact ⟨ha, size, vs, _, rel, ha⟩

theorem walk_ofG {l : PySem.W.OpenLaw} {n k : Nat} {q : Program} {loose : List Str} {XP : (Str → Option Value) → Heap → Prop} {YP : World → Heap → Prop} {d : DefRec} {K : Params → PySem.W.Frag} {CX : World → CXT} {sp : World → Sp} {x : Str}
    (hn : l.most = some n) (hn2 : n ≤ sizeLine) (hdf : d.params.defaults = []) (room : Room k callerA)
    (hY : ∀ (w : World) (h : Heap), YP w h → (K w.params).In h)
    (F : ∀ (w : World) (mg : Str → Option Value) (fa : Addr) (h : Heap), (K w.params).In h → h.Ns mainGlobals mg → mg d.name = some (.ref fa) →
      ∃ fd : FuncData, (∀ (s : Shared) (u : Value), BindsTo s fd ⟨[u], []⟩ [(x, u)]) ∧
        ∀ base : Heap, (K w.params).In base → base.Ns mainGlobals mg → FnG l.prog w (K w.params) mg base (CX w) k fa fd [x] (sp w))
    (hsp : ∀ (w : World) (G : Hp) (a : Addr) (ns : List Int), ns.length ≤ n → Only G → SqL (K w.params) G a (ns.map V.int) → sp w [.ref a] G (fun v _ => v = .bl true) fun _ _ _ => False)
    (hCX : ∀ (w : World) (G : Hp) (s : Shared) (e : Value) (s' : Shared), CX w [] G s (fun _ _ _ => False) e s' → False) :
    PySem.W.WalkO q loose XP YP l.row.toRowW d [] (fun f vs => PySem.call f vs) := by
  refine Att.attach_call hn hdf ?_
  intro w s0 s1 mg mb fa o pm cd doc a vs ns Gr Y ho hd hcd hmg hobj hints hlen hgen
  obtain ⟨fd, hb, hF⟩ := F w mg fa _ (hY w _ Y) Gr.T.g hmg
  exact law_callG (hY w _ Y) Gr.T.g Gr.T.b Gr.T.builtins Gr.T.nolimit hgen hobj hints (Nat.le_trans hlen hn2) room hF hb (fun G only seq => hsp w G a ns hlen only seq) fun G e s' => hCX w G s1 e s'
end Qh
set_option Elab.async false
set_option linter.all false
set_option maxRecDepth 100000
set_option maxHeartbeats 4000000
/-! An error that is caught and then kept under a name of the def: the object itself is tracked. -/
namespace Qh
open PySem PySem.Spec PyProof.Rows L2

/-- at a: an error object of the class cls, its own dict at d -/
def exk (cls : Value) (d : Option Addr) (a : Addr) : HO := .ext fun h => ∃ (oe : Obj) (vs : Array Value), h.get? a = some oe ∧ oe.cls = cls ∧ oe.dict = d ∧ oe.data = .fields vs

theorem exk_ok {P : Program} {w : World} {G : Hp} {h : Heap} {a : Addr} {oe : Obj} {vs : Array Value} (e : h.get? a = some oe) (d : oe.data = .fields vs) : ObjOk P w G h a (exk oe.cls oe.dict a) :=
  ⟨⟨oe, vs, e, rfl, rfl, d⟩, ⟨oe, e⟩, fun h1 h2 ⟨o, v, e1, r⟩ k => ⟨o, v, k o e1, r⟩⟩

section
variable {X : Cx} {pins : List (Addr × Obj)} {σ : L2.St} {G : Hp} {s : Shared}
theorem Inv.kept_err {a : Addr} {oe : Obj} {vs : Array Value} (I : Inv X pins σ G s) (hg : s.heap.get? a = some oe) (hd : oe.data = .fields vs) (na : G a = none) (nL : a ≠ X.env.locals)
    (n0 : X.s_0.heap.get? a = none) (np : ∀ p ∈ X.pn ++ pins, p.1 ≠ a) : Inv X pins σ (upd G a (exk oe.cls oe.dict a)) s := by
  have other : ∀ {b : Addr} {o : HO}, G b = some o → upd G a (exk oe.cls oe.dict a) b = some o := fun {b o} e => by
    rw [upd_ne (ne_of_none e na)]
    exact e
  have old : ∀ {b : Addr} {o : Obj}, X.s_0.heap.get? b = some o → b ≠ a := fun {b o} e z => by
    rw [z, n0] at e
    cases e
  refine ⟨I.ok, I.os, I.bare, ⟨I.base.keep, I.base.slot, fun b o e n x => ?_, I.base.there, fun b xs e => other (I.base.tups b xs e), fun b o u e => other (I.base.frzs b o u e), fun b ps e => ?_⟩, I.loc, I.cell, ?_, fun x c e => ?_, fun p hp => ?_,
    HOk.laidN I.hok (fun _ _ z => z) na (exk_ok hg hd), I.len⟩
  · rw [upd_ne (old e)]
    exact I.base.free b o e n x
  · obtain ⟨more, q⟩ := I.base.tbls b ps e
    exact ⟨more, other q⟩
  · rw [upd_ne nL.symm]
    exact I.free
  · have ne : c ≠ a := fun z => by
      obtain ⟨v, o, e1, e2⟩ := I.cell x c e
      rw [z, hg] at e1
      injection e1 with e1
      rw [← e1, hd] at e2
      cases e2
    rw [upd_ne ne]
    exact I.freeC x c e
  · obtain ⟨h1, h2, h3⟩ := I.pin p hp
    refine ⟨h1, ?_, h3⟩
    rw [upd_ne (np p hp)]
    exact h2
end

/-- what the clause 'except x as n: c = n' wishes of an error of the body: n has slot i, c slot j -/
def wHeld (K : PySem.W.Frag) (c : Value) (i j : Nat) (Wout : WX) (D : Ends) : WX := fun cls d σ G =>
  ∃ b, PySem.W.exmOne K cls c = some b ∧ (b = true → ∀ a, G a = none → D.nx (((σ.set i (some (.ref a))).set j (some (.ref a))).set i none) (upd G a (exk cls d a))) ∧ (b = false → Wout cls d σ G)

section
variable {X : Cx} {x n y : Str} {c : Value} {i j : Nat} {body : List Stmt} {np p1 p2 p3 pos pos' : Pos} {tb : WX → TS} {Wout : WX}
theorem ps_try_held (hs : X.stack = X.env :: X.outer) (hf : X.env.frame = some X.env.locals) (hex : X.ex = []) (hN : X.N.Nodup) (hi : X.N[i]? = some n) (hln : X.env.kindOf n = some .local)
    (hj : X.N[j]? = some y) (hly : X.env.scope.names.lookup y = some .local) (hdb : (n == ("__debug__" : Str)) = false) (hdc : (n == ("__classdict__" : Str)) = false)
    (hsw : swapsWith (.Name n p2) (some (.Name y p1)) p3.line X.env = pure false)
    (hc : Names X x c) (tk : Takes X Wout)
    (hb : ∀ (W : WX) (pn : List (Addr × Obj)) (xe : Value → Shared → Prop), Takes (X.tr pn xe) W → PassesOwn (model X.prog X.w) X.A X.env xe → PSs (X.tr pn xe) body (tb W)) :
    PS X (.Try body [.ExceptHandler (some (.Name x np)) (some n) [.Assign [.Name y p1] (.Name n p2) p3] pos'] [] [] pos) (fun D σ G => tb (wHeld X.K c i j Wout D) D σ G) := by
  constructor
  intro pins s σ G D I h
  have ok := I.ok
  have frames : X.A.frames = some (X.env :: X.outer) := by rw [ok.frames, hs]
  have hloc : Loc X.env.scope n := Or.inl hln
  have hlen : i < σ.length := by
    rw [I.len]
    exact (List.getElem?_eq_some_iff.mp hi).1
  refine wpAny_Try_except ?_
  refine wpAny_mono ((hb (wHeld X.K c i j Wout D) (X.pn ++ pins) (fun e s1 => wpAny (model X.prog X.w) X.A (noteFrame e X.env) (fun _ s2 => wpAny (model X.prog X.w) X.A (setFlight e none) (fun _ s3 =>
    wpAny (model X.prog X.w) X.A (handleBy e X.env [.ExceptHandler (some (.Name x np)) (some n) [.Assign [.Name y p1] (.Name n p2) p3] pos']) (SP X pins D) X.xe s3) X.xe s2) X.xe s1) ?_ PassesOwn.looking).run [] s σ G D (I.toTry _) h) ?_ (fun _ _ z => z)
  · rintro u s' ⟨a, B, sI, pins', σ', G', cls, d, rfl, J', nb, up, sky, na, os, ag, b, hb1, hyes, hno⟩
    have J : Inv X pins σ' G' sI := J'.ofTry ok
    have sky' : Sky B (X.env :: X.outer) a (Zc cls d) X.env.locals s'.heap := hs ▸ sky
    have Bno : B.get? a = none := by
      rcases sky with z | z | z
      · exact z.2.1
      · exact z.2.1
      · exact z.2.1
    show wpAny (model X.prog X.w) X.A (noteFrame (.ref a) X.env) _ _ _
    refine Sky.land Zc.steady frames hf sky' fun h3 fl3 up3 => ?_
    have J3 : Inv X pins σ' G' { s' with heap := h3 } := J.landed nb fl3.1 (up.trans up3) os ag
    obtain ⟨oe3, vs3, he3, hz3, hd3⟩ := fl3.there
    have outside : a ∉ frs (X.env :: X.outer) := fun hm => by
      obtain ⟨_, o', e', z⟩ := fl3.2.2.1.mem hm
      rw [he3] at e'
      injection e' with e'
      subst e'
      exact z _ hd3
    have nL : a ≠ X.env.locals := fun z => outside (List.mem_filterMap.mpr ⟨X.env, List.mem_cons_self, by rw [hf, z]⟩)
    have nF : a ∉ X.fs := fun hm => by
      obtain ⟨e, he, q⟩ := List.mem_filterMap.mp hm
      exact outside (List.mem_filterMap.mpr ⟨e, List.mem_cons_of_mem _ he, q⟩)
    have fresh : ∀ {b : Addr} {o : Obj}, sI.heap.get? b = some o → b ∉ frs X.stack → b ≠ a := fun {b o} e hm z => by
      have q := nb b o e hm
      rw [z, Bno] at q
      cases q
    have n0 : X.s_0.heap.get? a = none := by
      cases q : X.s_0.heap.get? a with
      | none => rfl
      | some o =>
        obtain ⟨o', e'⟩ := J.base.there a o q (by rw [hex]; simp)
        exact absurd rfl (fresh e' (hs ▸ outside))
    have npin : ∀ p ∈ X.pn ++ pins, p.1 ≠ a := fun p hp => by
      obtain ⟨q1, _, q3, q4, _⟩ := J.pin p hp
      refine fresh q1 fun hm => ?_
      rw [hs] at hm
      obtain ⟨e, he, q⟩ := List.mem_filterMap.mp hm
      rcases List.mem_cons.mp he with rfl | he
      · rw [hf] at q
        injection q with q
        exact q3 q.symm
      · exact q4 (List.mem_filterMap.mpr ⟨e, he, q⟩)
    have S3 := J3.suite he3 hd3 na nL nF
    refine wpAny_handleBy_cons (codeAny_handlers_test ?_) (by intro q; cases q)
    have LT : PySem.W.Looks (model X.prog X.w) h3 (typeOf (.ref a)) cls := fun A Q E s k q => wpAny_typeOf_ref (k _ _ he3) (by rw [hz3.1]; exact q)
    have LM := PySem.W.exm_one (M := model X.prog X.w) (J3.kIn) LT hb1
    have test : ∀ {Q : Value → Shared → Prop} {E : Value → Shared → Prop}, Q c { s' with heap := h3 } → wpAny (model X.prog X.w) (X.A.mark (some (.ref a))) (eval (.Name x np) X.env) Q E { s' with heap := h3 } := fun {Q E} q => by
      obtain ⟨hg, hdbg, hm | ⟨hm, hv, hnn⟩⟩ := hc
      · exact ld_glob (X := X.suite a ((a, oe3) :: (X.pn ++ pins))) S3 hg hm q hdbg
      · exact ld_blt (X := X.suite a ((a, oe3) :: (X.pn ++ pins))) S3 hg hm hv q hnn hdbg
    refine test (LM.here ?_)
    cases b with
    | true =>
      refine codeAny_handlers_suite_as ?_
      refine HandSPX.lands_againZ fl3 fun h4 fl4 up4 => ?_
      have J4 : Inv X pins σ' G' { s' with heap := h4 } := J.landed nb fl4.1 ((up.trans up3).trans up4) os ag
      obtain ⟨oe4, vs4, he4, hz4, hd4⟩ := fl4.there
      have S4 := J4.suite he4 hd4 na nL nF
      have hlen' : i < σ'.length := by
        rw [J.len]
        exact (List.getElem?_eq_some_iff.mp hi).1
      refine store_ok (X := X.suite a ((a, oe4) :: (X.pn ++ pins))) (v := .ref a) S4 hN hi hloc rfl (fun s5 S5 => ?_) (.inr hln)
      have asg : PSs (X.suite a ((a, oe4) :: (X.pn ++ pins))) [.Assign [.Name y p1] (.Name n p2) p3] (tAsg (tVar i) (gName j)) :=
        pss_one (ps_set hN hj (Or.inl hly) (pe_var hi (Or.inl hln) hdb hdc) hsw (.inr hly))
      refine wpAny_mono (asg.run [] s5 _ G' { nx := fun σ6 G6 => σ6 = (σ'.set i (some (.ref a))).set j (some (.ref a)) ∧ G6 = G', rt := fun _ _ => False } S5 ⟨.ref a, List.getElem?_set_self hlen', rfl, rfl⟩) ?_ (fun _ _ z => z.elim)
      intro f s6 hsp
      cases f with
      | next =>
        obtain ⟨σ6, G6, S6, rfl, rfl⟩ := hsp
        have pinned := S6.pin (a, oe4) (List.mem_append_left _ List.mem_cons_self)
        have J6 := Qh.Inv.kept_err (S6.unsuite ok) pinned.1 hd4 na nL n0 npin
        rw [hz4.1, hz4.2] at J6
        exact gone_ok J6 hN hi hln fun s7 J7 => ⟨_, _, J7, hyes rfl a na⟩
      | brk => exact (hsp.elim fun _ z => z.elim fun _ z => z.2).elim
      | cont => exact (hsp.elim fun _ z => z.elim fun _ z => z.2).elim
      | ret u => exact (hsp.elim fun _ z => z.elim fun _ z => z.elim fun _ z => z.2.2).elim
    | false =>
      show wpAny _ X.A (handleBy (.ref a) X.env []) _ _ _
      refine wpAny_handleBy_nil ?_
      obtain ⟨k1, k2, k3, oe, vs, T, oT, ts', he, hz, hd, h1, hr⟩ := id fl3
      unfold PySem.passOn
      refine wpAny_bind (wpAny_field he hd h1 ?_)
      rw [if_neg (show ¬ ((Value.ref T == Value.none) = true) from by simp)]
      have fin : wpAny (model X.prog X.w) X.A (setFlight (.ref a) X.env.frame) (fun _ s4 => wpAny (model X.prog X.w) X.A (throw (.ref a) : Sem Flow) (SP X pins D) X.xe s4) X.xe { s' with heap := h3 } := by
        rw [hf]
        refine HandSPX.setFlight_upZ fl3 fun h4 hh4 up4 => wpAny_throw (tk _ _ ?_)
        exact ⟨a, B, sI, pins, σ', G', cls, d, rfl, J, nb, (up.trans up3).trans up4, .inr (.inr (by rw [hs]; exact hh4)), na, os, ag, hno rfl⟩
      first
        | exact wpAny_bind (wpAny_pure (wpAny_bind fin))
        | exact wpAny_bind fin
  · intro f s1 hsp
    cases f with
    | next =>
      obtain ⟨σ1, G1, J1, q⟩ := hsp
      exact wpAny_execs_nil ⟨σ1, G1, J1.ofTry ok, q⟩
    | brk =>
      obtain ⟨σ1, G1, J1, q⟩ := hsp
      exact ⟨σ1, G1, J1.ofTry ok, q⟩
    | cont =>
      obtain ⟨σ1, G1, J1, q⟩ := hsp
      exact ⟨σ1, G1, J1.ofTry ok, q⟩
    | ret u =>
      obtain ⟨v, σ1, G1, J1, r, q⟩ := hsp
      exact ⟨v, σ1, G1, J1.ofTry ok, r, q⟩
end
/-! ### the kept error: its fields, isinstance -/
/-- e.f -/
def tErrF (K : PySem.W.Frag) (f : Str) (te : TE) : TE := fun σ G Q => te σ G fun x G1 => ∃ (a C d : Addr) (fs : List (Str × V)) (v : V), x = .ref a ∧ G1 a = some (exk (.ref C) (some d) a) ∧ G1 d = some (.xd fs) ∧
  XfC K C ∧ PySem.W.findIn K (.ref C) f = some none ∧ fs.lookup f = some v ∧ Q v G1
theorem pe_errF {X : Cx} {e : Expr} {te : TE} {pos : Pos} {f : Str} (he : PE X e te) (hb : attributeBase e f X.env (eval e X.env) = eval e X.env := by rfl) : PE X (.Attribute e f pos) (tErrF X.K f te) := by
  constructor
  intro pins s σ G Q I h
  refine attr_of hb (thn (he.run pins s σ G _ I h) ?_)
  rintro u s1 ⟨x, G1, I1, rx, a, C, dd, fs, v, rfl, ek, ed, T, hno, l, q⟩
  obtain rfl : u = Value.ref a := rx
  obtain ⟨⟨oe, vs, ha, hcls, hdict, hdata⟩, _⟩ := I1.hok a _ ek
  obtain ⟨mA, hns, hr⟩ := I1.hok dd _ ed
  obtain ⟨od, ho, hl⟩ := lookIn_ns hns
  obtain ⟨u, hu, ru⟩ := RelO.some_of (v := v) (o := mA f) (by rw [← l]; exact hr f)
  have J : PySem.W.InstAt s1.heap a oe C (some od) := ⟨ha, hcls, by unfold PySem.W.notCls; rw [hdata] <;> rfl, by rw [hdict]; exact ho⟩
  exact HandSPX.exc_get I1.kIn J T.ga T.gg T.exC (PySem.W.findObj_own T.hdC hno rfl (by rw [hl, hu])) (handed_of ru) ⟨v, G1, I1.tok _, ru, q⟩

/-- isinstance(e, c), e a kept error of the class at D -/
def rErrIs (K : PySem.W.Frag) : List V → Hp → VK → Prop := fun xs G Q => ∃ (a D d : Addr) (fs : List (Str × V)) (c : V) (cv : Value) (b : Bool), xs = [.ref a, c] ∧ G a = some (exk (.ref D) (some d) a) ∧ G d = some (.xd fs) ∧ ExcC K D ∧ (∀ u, RelV c u → u = cv) ∧ PySem.W.kitOne K (.ref D) cv = some b ∧ Q (.bl b) G
theorem call_errIs {X : Cx} : CallR X (.builtin "isinstance") (rErrIs X.K) := by
  rintro pins s σ G xs us Q I r ⟨a, D, d, fs, c, cv, b, rfl, ek, ed, C, hcv, e, q⟩
  obtain ⟨u1, u2, rfl, r1, r2⟩ := vals2 r
  obtain rfl : u1 = Value.ref a := r1
  obtain rfl := hcv _ r2
  obtain ⟨⟨oe, vs, ha, hcls, hdict, hdata⟩, _⟩ := I.hok a _ ek
  obtain ⟨mA, hns, hr⟩ := I.hok d _ ed
  obtain ⟨od, ho, hl⟩ := lookIn_ns hns
  have J : PySem.W.InstAt s.heap a oe D (some od) := ⟨ha, hcls, by unfold PySem.W.notCls; rw [hdata] <;> rfl, by rw [hdict]; exact ho⟩
  have hcl : (PySem.W.clsIn X.K D).isSome = true := by
    obtain ⟨cd, hc, _⟩ := PySem.W.any_some C.hd
    rw [hc]
    rfl
  exact PySem.W.kia_one (PySem.W.kitx_exc hcl C.hg C.hk C.hs C.ha C.hn C.ht C.hm) I.kIn J e (fun z => nomatch z) fun tk => ⟨.bl b, G, I.kept (t' := tk) fun _ _ z => z, rfl, q⟩
end Qh
set_option Elab.async false
set_option linter.all false
set_option maxRecDepth 100000
set_option maxHeartbeats 4000000
/-! Own defs by name: what stands behind the top, how they are called. -/
namespace Qh
open PySem PySem.Spec PyProof.Rows L2

/-- the def x of the module keeps sp -/
structure Ok (P : Program) (w : World) (K : PySem.W.Frag) (mg : Str → Option Value) (base : Heap) (x : Str) (pa : Arguments) (ps : List Str) (k : Nat) (sp : Sp) : Prop where
  ex : ∃ (f : Addr) (body : List Stmt) (scope : Scope) (kV doc pm : Value) (an : Option Addr) (cdv ct : Value), mg x = some (.ref f) ∧ PySem.W.keepIn K (.ref f) = true ∧
    (∀ us : List Value, us.length = ps.length → bindArgs (PySem.W.fnOf x x pa body scope .none kV doc pm an cdv ct) ⟨us, []⟩ = pure (ps.zip us)) ∧
    FnOk P w K mg base (L2.CX P w) k f (PySem.W.fnOf x x pa body scope .none kV doc pm an cdv ct) ps sp
/-- .. where no repr is under way -/
structure OkG (P : Program) (w : World) (K : PySem.W.Frag) (mg : Str → Option Value) (base : Heap) (x : Str) (pa : Arguments) (ps : List Str) (k : Nat) (sp : Sp) : Prop where
  ex : ∃ (f : Addr) (body : List Stmt) (scope : Scope) (kV doc pm : Value) (an : Option Addr) (cdv ct : Value), mg x = some (.ref f) ∧ PySem.W.keepIn K (.ref f) = true ∧
    (∀ us : List Value, us.length = ps.length → bindArgs (PySem.W.fnOf x x pa body scope .none kV doc pm an cdv ct) ⟨us, []⟩ = pure (ps.zip us)) ∧
    FnG P w K mg base (L2.CX P w) k f (PySem.W.fnOf x x pa body scope .none kV doc pm an cdv ct) ps sp

section
variable {X : Cx} {W : WX} {k : Nat} {ps : List Str} {sp : Sp} {pa : Arguments} {x : Str} {p pos : Pos} {e : Expr} {es : List Expr} {t : TA}
theorem bindsOf {K : PySem.W.Frag} {x : Str} {pa : Arguments} {body : List Stmt} {scope : Scope} {kV doc pm : Value} {an : Option Addr} {cdv ct : Value} {ps : List Str}
    (h : ∀ us : List Value, us.length = ps.length → bindArgs (PySem.W.fnOf x x pa body scope .none kV doc pm an cdv ct) ⟨us, []⟩ = pure (ps.zip us)) : Binds K (PySem.W.fnOf x x pa body scope .none kV doc pm an cdv ct) ps [] := .all h
/-- f(e, ..), f a def of the module -/
theorem pe_own (F : Ok X.prog X.w X.K X.mg X.base x pa ps k sp) (hr : Room k X.A) (tk : Takes X W) (ha : PA X (e :: es) t) (hg : Gl X x := by rfl) (hdb : (x == ("__debug__" : Str)) = false := by decide)
    (he : starEach (e :: es) X.env = (false, eval e X.env) :: starEach es X.env := by rfl) (hpl : (backTo pos (starEach es X.env)).any (·.1) = false := by rfl) :
    PE X (.Call (.Name x p) (e :: es) [] pos) (tCallS sp (WE W) t) := by
  obtain ⟨f, body, scope, kV, doc, pm, an, cdv, ct, hm, hk, hb, F⟩ := F.ex
  exact pe_callS F hr hg hm hk (bindsOf hb) (fun σ => passAt tk σ) ha hdb he hpl
theorem pe_ownG (F : OkG X.prog X.w X.K X.mg X.base x pa ps k sp) (gu : X.A.guards = some []) (hr : Room k X.A) (ha : PA X (e :: es) t) (hg : Gl X x := by rfl) (hdb : (x == ("__debug__" : Str)) = false := by decide)
    (he : starEach (e :: es) X.env = (false, eval e X.env) :: starEach es X.env := by rfl) (hpl : (backTo pos (starEach es X.env)).any (·.1) = false := by rfl) :
    PE X (.Call (.Name x p) (e :: es) [] pos) (tCall sp [] E0 t) := by
  obtain ⟨f, body, scope, kV, doc, pm, an, cdv, ct, hm, hk, hb, F⟩ := F.ex
  exact pe_callG F gu hr hg hm hk (bindsOf hb) .nil passL ha hdb he hpl

/-! ### keywords alone, where errors are wished for at the caller's slots -/
end

/-! ### a def as the top has left it -/
structure DefIn (K : PySem.W.Frag) (mg : Str → Option Value) (x : Str) (st : Stmt) : Prop where
  ex : ∃ (f : Addr) (fd : FuncData), Fun K x x st f fd ∧ mg x = some (.ref f)
section
variable {P : Program} {w : World} {K : PySem.W.Frag} {mg : Str → Option Value} {base : Heap} {x : Str} {st : Stmt} {N ps : List Str} {k : Nat} {sp : Sp}
/-- its promise, by its body -/
theorem DefIn.ok (D : DefIn K mg x st) (S : FnScope N ps (defScope st)) (len : ∀ vs G Q E, sp vs G Q E → vs.length = ps.length)
    (hbind : ∀ (kV doc pm : Value) (an : Option Addr) (cdv ct : Value) (us : List Value), us.length = ps.length → bindArgs (PySem.W.fnOf x x (defArgs st) (defBody st) (defScope st) .none kV doc pm an cdv ct) ⟨us, []⟩ = pure (ps.zip us))
    (hbody : ∀ (f : Addr) (cdv : Value) (A : Around) (out : List Env) (t : Shared) (G : Hp) (vs : List V) (Q : VK) (E : XK), Room k (A.deeper (envOfC x (defScope st) t.heap.objs.size f cdv)) → sp vs G Q E →
      ∃ rd, PSs (cxOf (L2.CX P w) P w K mg base N x (defScope st) f cdv A out t G E) (defBody st) rd ∧ rd { nx := fun _ G' => Q .non G', rt := Q } (start N vs) G) :
    Ok P w K mg base x (defArgs st) ps (k + 1) sp := by
  obtain ⟨f, fd, F, hm⟩ := D.ex
  have G : FnOk P w K mg base (L2.CX P w) (k + 1) f fd ps sp := F.okX S len fun cdv A out t G vs Q E room want => hbody f cdv A out t G vs Q E room want
  obtain ⟨oc, od, kV, doc, pm, an, cdv, ct, osl, rfl, lk, hcd⟩ := F.ex
  exact ⟨⟨f, _, _, kV, doc, pm, an, cdv, ct, hm, F.kp, fun us hl => hbind kV doc pm an cdv ct us hl, G⟩⟩
theorem DefIn.okG (D : DefIn K mg x st) (S : FnScope N ps (defScope st)) (len : ∀ vs G Q E, sp vs G Q E → vs.length = ps.length)
    (hbind : ∀ (kV doc pm : Value) (an : Option Addr) (cdv ct : Value) (us : List Value), us.length = ps.length → bindArgs (PySem.W.fnOf x x (defArgs st) (defBody st) (defScope st) .none kV doc pm an cdv ct) ⟨us, []⟩ = pure (ps.zip us))
    (hbody : ∀ (f : Addr) (cdv : Value) (A : Around) (out : List Env) (t : Shared) (G : Hp) (vs : List V) (Q : VK) (E : XK), A.guards = some [] → Room k (A.deeper (envOfC x (defScope st) t.heap.objs.size f cdv)) → sp vs G Q E →
      ∃ rd, PSs (cxOf (L2.CX P w) P w K mg base N x (defScope st) f cdv A out t G E) (defBody st) rd ∧ rd { nx := fun _ G' => Q .non G', rt := Q } (start N vs) G) :
    OkG P w K mg base x (defArgs st) ps (k + 1) sp := by
  obtain ⟨f, fd, F, hm⟩ := D.ex
  have G : FnG P w K mg base (L2.CX P w) (k + 1) f fd ps sp := Qh.okG F S len fun cdv A out t G vs Q E gu room want => hbody f cdv A out t G vs Q E gu room want
  obtain ⟨oc, od, kV, doc, pm, an, cdv, ct, osl, rfl, lk, hcd⟩ := F.ex
  exact ⟨⟨f, _, _, kV, doc, pm, an, cdv, ct, hm, F.kp, fun us hl => hbind kV doc pm an cdv ct us hl, G⟩⟩
end
end Qh
set_option Elab.async false
set_option linter.all false
set_option maxRecDepth 100000
set_option maxHeartbeats 4000000
/-! What every law of this table brings: built-in names, repr of data, the pen. -/
namespace Qh
open PySem PySem.Spec PyProof.Rows L2

/-- the built-in names that the module leaves alone -/
structure Blt (mg : Str → Option Value) : Prop where
  n_len : mg "len" = none
  n_int : mg "int" = none
  n_abs : mg "abs" = none
  n_list : mg "list" = none
  n_tuple : mg "tuple" = none
  n_range : mg "range" = none
  n_repr : mg "repr" = none
  n_all : mg "all" = none
  n_any : mg "any" = none
  n_isinstance : mg "isinstance" = none
  n_str : mg "str" = none
  n_bool : mg "bool" = none
  n_dict : mg "dict" = none
  n_set : mg "set" = none
  n_sorted : mg "sorted" = none
  n_enumerate : mg "enumerate" = none
  n_zip : mg "zip" = none
  n_max : mg "max" = none
  n_sum : mg "sum" = none
  n_min : mg "min" = none
  n_reversed : mg "reversed" = none

theorem bt_len : bootBuiltins "len" = some (.builtin "len") := by decide +kernel
theorem bt_abs : bootBuiltins "abs" = some (.builtin "abs") := by decide +kernel
theorem bt_int : bootBuiltins "int" = some (.type "int") := by decide +kernel
theorem bt_list : bootBuiltins "list" = some (.type "list") := by decide +kernel
theorem bt_tuple : bootBuiltins "tuple" = some (.type "tuple") := by decide +kernel
theorem bt_str : bootBuiltins "str" = some (.type "str") := by decide +kernel
theorem bt_bool : bootBuiltins "bool" = some (.type "bool") := by decide +kernel
theorem bt_repr : bootBuiltins "repr" = some (.builtin "repr") := by decide +kernel
theorem bt_all : bootBuiltins "all" = some (.builtin "all") := by decide +kernel
theorem bt_isinstance : bootBuiltins "isinstance" = some (.builtin "isinstance") := by decide +kernel
/-! ### repr of data, where no repr is under way -/
section
variable {X : Cx}
def rRepr (K : PySem.W.Frag) : List V → Hp → VK → Prop := fun xs G Q => ∃ (a : Addr) (d : PyData), xs = [.ref a] ∧ Dp K G (.ref a) d ∧ d.showable = true ∧ d.hasDict = false ∧ d.depth ≤ 40 ∧ d.shown.length ≤ sizeLine ∧ Q (.str d.shown) G
theorem call_repr (gu : X.A.guards = some []) (hu : X.A.units + 64 < cLine) : CallR X (.builtin "repr") (rRepr X.K) := by
  rintro pins s σ G xs us Q I r ⟨a, d, rfl, hd, hs, hn, hk, hz, q⟩
  obtain ⟨u, rfl, ru⟩ := vals1 r
  obtain rfl : u = Value.ref a := ru
  obtain ⟨as, rd⟩ := Dp.reads I d _ _ hd rfl
  exact repr_of_reads' rd hs (PyData.noDict_hsm hn) gu (by omega) (fun _ _ z => z) (fun h' u tk k => ⟨.str d.shown, G, I.kept k, ⟨u, rfl⟩, q⟩) hz
end

/-! ### the pen: the script's cells, how many are read, what is left of a great cell -/
def Pen (G : Hp) (p l : Addr) (c : Int) : Prop :=
  ∃ (n g : Int) (ns : List Int), G p = some (.lst [.ref l, .int n, .int g]) ∧ G l = some (.lst (ns.map V.int)) ∧ l ≠ p ∧ 0 ≤ n ∧ n ≤ c ∧ 0 ≤ g
/-- all that was tracked but p is as it was -/
def Kp (p : Addr) (G G' : Hp) : Prop := ∀ b o, b ≠ p → G b = some o → G' b = some o
theorem Kp.refl (p : Addr) (G : Hp) : Kp p G G := fun _ _ _ h => h
theorem Kp.trans {p : Addr} {G G1 G2 : Hp} (a : Kp p G G1) (b : Kp p G1 G2) : Kp p G G2 := fun x o n h => b x o n (a x o n h)
theorem Kp.new {p q : Addr} {G : Hp} {o : HO} (h : G q = none) : Kp p G (upd G q o) := fun b u _ e => by
  rw [upd_ne (ne_of_none e h)]
  exact e
theorem Kp.self {p : Addr} {G : Hp} {o : HO} : Kp p G (upd G p o) := fun b u n e => by
  rw [upd_ne n]
  exact e
theorem Kp.same {p : Addr} {G G' : Hp} (h : Same G G') : Kp p G G' := fun b o _ e => h b o e
theorem Same.new {q : Addr} {G : Hp} {o : HO} (h : G q = none) : Same G (upd G q o) := fun b u e => by
  rw [upd_ne (ne_of_none e h)]
  exact e
/-- an object that was not there before may change -/
theorem Kp.fresh {p q : Addr} {G G' : Hp} {o : HO} (k : Kp p G G') (h : G q = none) : Kp p G (upd G' q o) := fun b u n e => by
  rw [upd_ne (ne_of_none e h)]
  exact k b u n e
theorem Kp.free {p q : Addr} {G G' : Hp} (k : Kp p G G') (n : q ≠ p) (h : G' q = none) : G q = none := by
  cases e : G q with
  | none => rfl
  | some o =>
    rw [k q o n e] at h
    cases h
theorem Pen.mono {G : Hp} {p l : Addr} {c c' : Int} (P : Pen G p l c) (h : c ≤ c') : Pen G p l c' := by
  obtain ⟨n, g, ns, h1, h2, h3, h4, h5, h6⟩ := P
  exact ⟨n, g, ns, h1, h2, h3, h4, Int.le_trans h5 h, h6⟩
/-- an object that is neither the pen nor its cells may change -/
theorem Pen.upd {G : Hp} {p l q : Addr} {c : Int} {o : HO} (P : Pen G p l c) (hp : q ≠ p) (hl : q ≠ l) : Pen (upd G q o) p l c := by
  obtain ⟨n, g, ns, h1, h2, h3⟩ := P
  refine ⟨n, g, ns, ?_, ?_, h3⟩
  · rw [upd_ne hp.symm]
    exact h1
  · rw [upd_ne hl.symm]
    exact h2
theorem Pen.same {G G' : Hp} {p l : Addr} {c : Int} (P : Pen G p l c) (k : Same G G') : Pen G' p l c := by
  obtain ⟨n, g, ns, h1, h2, h3⟩ := P
  exact ⟨n, g, ns, k _ _ h1, k _ _ h2, h3⟩
theorem Pen.ne {G : Hp} {p l q : Addr} {c : Int} (P : Pen G p l c) (h : G q = none) : q ≠ p := fun e => by
  obtain ⟨n, g, ns, h1, _⟩ := P
  rw [e, h1] at h
  cases h
theorem Pen.nel {G : Hp} {p l q : Addr} {c : Int} (P : Pen G p l c) (h : G q = none) : q ≠ l := fun e => by
  obtain ⟨n, g, ns, _, h1, _⟩ := P
  rw [e, h1] at h
  cases h
theorem Pen.new {G : Hp} {p l q : Addr} {c : Int} {o : HO} (P : Pen G p l c) (h : G q = none) : Pen (L2.upd G q o) p l c := P.upd (P.ne h) (P.nel h)
/-- a number below m is drawn -/
def spDraw : Sp := fun vs G Q _ => ∃ (p l : Addr) (c m : Int), vs = [.ref p, .int m] ∧ Pen G p l c ∧ c ≤ 1000000 ∧ 0 < m ∧ m ≤ 1000000 ∧ ∀ (d : Int) (G' : Hp), 0 ≤ d → d < m → Kp p G G' → Pen G' p l (c + 1) → Q (.int d) G'
/-- one of some things is drawn -/
def spPick (K : PySem.W.Frag) : Sp := fun vs G Q _ => ∃ (p l a : Addr) (c : Int) (xs : List V), vs = [.ref p, .ref a] ∧ Pen G p l c ∧ c ≤ 1000000 ∧ a ≠ p ∧ SqL K G a xs ∧ 0 < xs.length ∧ xs.length ≤ 1000000 ∧
  ∀ (x : V) (G' : Hp), x ∈ xs → Kp p G G' → Pen G' p l (c + 1) → Q x G'
/-- the pen is made -/
def spPen (K : PySem.W.Frag) : Sp := fun vs G Q _ => ∃ (a : Addr) (ns : List Int), vs = [.ref a] ∧ SqL K G a (ns.map V.int) ∧ ∀ (p l : Addr) (G' : Hp), G p = none → Same G G' → Pen G' p l 0 → Q (.ref p) G'
theorem Kp.seq {K : PySem.W.Frag} {p a : Addr} {G G' : Hp} {xs : List V} (k : Kp p G G') (n : a ≠ p) (h : SqL K G a xs) : SqL K G' a xs := by
  rcases h with (h | ⟨o, h⟩) | h
  · exact .inl (.inl (k _ _ n h))
  · exact .inl (.inr ⟨o, k _ _ n h⟩)
  · exact .inr h

/-! ### data -/
theorem dp_ints {K : PySem.W.Frag} {G : Hp} : ∀ ns : List Int, DpAll K G (ns.map V.int) (ns.map PyData.int)
  | [] => .nil
  | a :: r => .cons (.int a) (dp_ints r)
theorem dp_strs {K : PySem.W.Frag} {G : Hp} : ∀ xs : List Str, DpAll K G (xs.map V.str) (xs.map PyData.str)
  | [] => .nil
  | a :: r => .cons (.str a) (dp_strs r)
theorem lay_ints : ∀ ns : List Int, PyData.canLayAll0 (ns.map PyData.int) = true ∧ PyData.depthAll (ns.map PyData.int) = 0
  | [] => ⟨rfl, rfl⟩
  | a :: r => ⟨by show (true && PyData.canLayAll0 (r.map PyData.int)) = true; rw [(lay_ints r).1]; rfl, by show max 0 (PyData.depthAll (r.map PyData.int)) = 0; rw [(lay_ints r).2]; rfl⟩
/-- signs that are signs -/
def txt (x : Str) : Bool := x.cps.all (· < 0x110000)
theorem lay_strs : ∀ xs : List Str, (∀ x ∈ xs, txt x = true) → PyData.canLayAll0 (xs.map PyData.str) = true ∧ PyData.depthAll (xs.map PyData.str) = 0
  | [], _ => ⟨rfl, rfl⟩
  | a :: r, h => by
    have ih := lay_strs r fun x hx => h x (List.mem_cons_of_mem _ hx)
    have ha : PyData.canLay0 (.str a) = true := h a List.mem_cons_self
    constructor
    · show (PyData.canLay0 (.str a) && PyData.canLayAll0 (r.map PyData.str)) = true
      rw [ha, ih.1]
      rfl
    · show max 0 (PyData.depthAll (r.map PyData.str)) = 0
      rw [ih.2]
      rfl
theorem shaped_ints (ns : List Int) : SeqAt.shaped (.list (ns.map PyData.int)) = true := by
  show (PyData.canLayAll0 (ns.map PyData.int) && decide (PyData.depthAll (ns.map PyData.int) + 1 ≤ 64)) = true
  rw [(lay_ints ns).1, (lay_ints ns).2]
  rfl
theorem shaped_strsL (xs : List Str) (h : ∀ x ∈ xs, txt x = true) : SeqAt.shaped (.list (xs.map PyData.str)) = true := by
  show (PyData.canLayAll0 (xs.map PyData.str) && decide (PyData.depthAll (xs.map PyData.str) + 1 ≤ 64)) = true
  rw [(lay_strs xs h).1, (lay_strs xs h).2]
  rfl
theorem eqv_nil_r (ds : List PyData) : PyData.eqv (.list ds) (.list []) = decide (ds = []) := by
  cases ds with
  | nil => rfl
  | cons a r => rfl
theorem mod_lt (a b : Int) (h : 0 < b) : 0 ≤ a % b ∧ a % b < b := ⟨Int.emod_nonneg _ (by omega), Int.emod_lt_of_pos _ h⟩
theorem mod_at {xs : List V} (a : Int) (h : 0 < xs.length) : ∃ v, atI xs (a % (xs.length : Int)) = some v ∧ v ∈ xs := by
  have hm := mod_lt a (xs.length : Int) (by omega)
  have hl : (a % (xs.length : Int)).toNat < xs.length := by omega
  refine ⟨xs[(a % (xs.length : Int)).toNat], ?_, List.getElem_mem hl⟩
  have h2 : xs[(a % (xs.length : Int)).toNat]? = some xs[(a % (xs.length : Int)).toNat] := List.getElem?_eq_getElem hl
  have h3 := atI_nat h2
  rwa [Int.toNat_of_nonneg hm.1] at h3
theorem at_lt {xs : List V} (d : Int) (h0 : 0 ≤ d) (h : d < xs.length) : ∃ v, atI xs d = some v ∧ xs[d.toNat]? = some v ∧ v ∈ xs := by
  have hl : d.toNat < xs.length := by omega
  refine ⟨xs[d.toNat], ?_, List.getElem?_eq_getElem hl, List.getElem_mem hl⟩
  have h3 := atI_nat (List.getElem?_eq_getElem hl)
  rwa [Int.toNat_of_nonneg h0] at h3
theorem mem_ints {ns : List Int} {v : V} (h : v ∈ ns.map V.int) : ∃ i, v = V.int i := by
  obtain ⟨i, _, rfl⟩ := List.mem_map.mp h
  exact ⟨i, rfl⟩

theorem pow18 : (10 : Int) ^ (18 : Int).toNat = 1000000000000000000 := by decide +kernel
theorem draw_bound (x n A B b : Int) (hx : 0 ≤ x ∧ x < 2147483648) (hn : 0 ≤ n ∧ n ≤ 1000000) (hA : 0 ≤ A ∧ A ≤ 100000) (hB : 0 ≤ B ∧ B ≤ 100000) (hb : 0 ≤ b ∧ b ≤ 100000) : (x * (2 * n + b) + A * n * n + B).natAbs < 2 ^ 64 := by
  have h1 : x * (2 * n + b) ≤ 2147483648 * 2100000 := Int.mul_le_mul (by omega) (by omega) (by omega) (by omega)
  have h2 : 0 ≤ x * (2 * n + b) := Int.mul_nonneg hx.1 (by omega)
  have h3 : A * n ≤ 100000 * 1000000 := Int.mul_le_mul hA.2 hn.2 hn.1 (by omega)
  have h4 : 0 ≤ A * n := Int.mul_nonneg hA.1 hn.1
  have h5 : A * n * n ≤ 100000 * 1000000 * 1000000 := Int.mul_le_mul h3 hn.2 hn.1 (by omega)
  have h6 : 0 ≤ A * n * n := Int.mul_nonneg h4 hn.1
  omega
theorem great_nonneg (x : Int) (b : Bool) (h : 1000000000000000000 ≤ x) : 0 ≤ 2 * (x - 1000000000000000000) + (if b = true then (1 : Int) else 0) := by
  have hb : (0 : Int) ≤ (if b = true then (1 : Int) else 0) := by cases b <;> decide
  omega

/-! ### words -/
def ltr (c : Nat) : Bool := decide (97 ≤ c) && decide (c ≤ 122)
/-- 1 to m letters -/
def lettersS (x : Str) (m : Int) : Bool := (decide (1 ≤ (x.length : Int)) && decide ((x.length : Int) ≤ m)) && x.cps.toList.all ltr
def lettersV (v : V) (m : Int) : Bool := match v with
  | .str x => lettersS x m
  | _ => false
def wordS (x : Str) : Bool := lettersS x 10
def wordV (v : V) : Bool := lettersV v 10
/-- a value whose type is known: a text of a small size, or something else -/
def Known (K : PySem.W.Frag) (G : Hp) (v : V) : Prop := (∃ x, v = .str x ∧ x.length ≤ 1000000) ∨ ((∀ x, v ≠ .str x) ∧ ∃ t, TyX K G v t ∧ PySem.W.kitOne K t (.type "str") = some false)
def spLetters (K : PySem.W.Frag) : Sp := fun vs G Q _ => ∃ (v : V) (m : Int), vs = [v, .int m] ∧ Known K G v ∧ ∀ G', Same G G' → Q (.bl (lettersV v m)) G'
def spIsWord (K : PySem.W.Frag) : Sp := fun vs G Q _ => ∃ (v : V), vs = [v] ∧ Known K G v ∧ ∀ G', Same G G' → Q (.bl (wordV v)) G'
theorem lettersV_other {v : V} {m : Int} (h : ∀ x, v ≠ .str x) : lettersV v m = false := by
  cases v with
  | str x => exact absurd rfl (h x)
  | _ => rfl
theorem big_line {n : Nat} (h : n ≤ 1000000) : n ≤ sizeLine := Nat.le_trans h (by decide)
theorem big_line' {n : Nat} (h : n ≤ 1000000) : n < sizeLine := Nat.lt_of_le_of_lt h (by decide)
theorem Same.fresh {q : Addr} {G G' : Hp} {o : HO} (k : Same G G') (h : G q = none) : Same G (upd G' q o) := fun b u e => by
  rw [upd_ne (ne_of_none e h)]
  exact k b u e
theorem take_get {α : Type} {l : List α} {i : Nat} {a : α} (h : l[i]? = some a) : l.take (i + 1) = l.take i ++ [a] := by
  obtain ⟨h1, h2⟩ := List.getElem?_eq_some_iff.mp h
  rw [List.take_succ, h]
  rfl
end Qh
set_option Elab.async false
set_option linter.all false
set_option maxRecDepth 100000
set_option maxHeartbeats 4000000
namespace K08
open PySem PySem.Spec PyProof.Rows L2 Qh
def top (i : Nat) : Stmt := PySem.Challenge.pw_quotehome_k08_rules_made.main.body.getD i (.Pass ⟨0, 0, 0, 0⟩)
abbrev sPen : Stmt := top 21
abbrev sDraw : Stmt := top 22
abbrev sPick : Stmt := top 23
section
variable {P : Program} {w : World} {K : PySem.W.Frag} {mg : Str → Option Value} {base : Heap}
theorem scPen : FnScope ["_law_script"] ["_law_script"] (defScope sPen) := ⟨rfl, rfl, rfl, by decide +kernel, rfl, by decide +kernel, by decide +kernel⟩
theorem ok_pen (D : DefIn K mg "_law_pen" sPen) (B : Blt mg) : Ok P w K mg base "_law_pen" (defArgs sPen) ["_law_script"] 1 (spPen K) := by
  refine D.ok scPen (fun vs G Q E h => ?_) (fun _ _ _ _ _ _ us hl => match us, hl with | [_], _ => rfl) (fun f cdv A out t G vs Q E hr h => ?_)
  · obtain ⟨a, ns, rfl, _⟩ := h
    rfl
  · obtain ⟨a, ns, rfl, hS, k⟩ := h
    refine ⟨_, pss_one (ps_ret (pe_lst (pa_cons (pe_callTy call_list_of (by rfl) B.n_list bt_list (pa_cons (pe_slice sl_list (pv 0) po_none (po_some pe_int)) pa_nil)) (pa_cons pe_int (pa_cons pe_int pa_nil))))), ?_⟩
    refine ⟨_, rfl, 63, rfl, a, ns.map V.int, rfl, hS, fun q hq => ?_⟩
    refine ⟨q, _, rfl, .inl (SqL.of upd_same), fun l hl => ?_⟩
    refine ⟨by show 3 ≤ sizeLine; decide, fun p hp => ?_⟩
    have lq : l ≠ q := fun e => by rw [e, upd_same] at hl; cases hl
    have pl : p ≠ l := fun e => by rw [e, upd_same] at hp; cases hp
    have pq : p ≠ q := fun e => by rw [e, upd_ne lq.symm, upd_same] at hp; cases hp
    have nl : G l = none := by rw [upd_ne lq] at hl; exact hl
    have np : G p = none := by rw [upd_ne pl, upd_ne pq] at hp; exact hp
    have hcut : cutV (ns.map V.int) none (some 63) = (ns.take 63).map V.int := by
      unfold cutV
      rw [HT.sIx_none, show (some (63 : Int)) = some ((63 : Nat) : Int) from rfl, HT.sIx_nat, List.drop_zero, Nat.sub_zero, List.map_take]
      by_cases h : 63 ≤ (ns.map V.int).length
      · rw [Nat.min_eq_left h]
      · rw [Nat.min_eq_right (by omega), List.take_of_length_le (Nat.le_refl _), List.take_of_length_le (by omega)]
    refine k p l _ np (fun b o e => ?_) ⟨0, 0, ns.take 63, upd_same, ?_, pl.symm, Int.le_refl _, Int.le_refl _, Int.le_refl _⟩
    · rw [upd_ne (ne_of_none e np), upd_ne (ne_of_none e nl), upd_ne (ne_of_none e hq)]
      exact e
    · rw [upd_ne pl.symm, upd_same, hcut]
theorem scDraw : FnScope ["_law_pen_here", "_law_many_here", "_law_digit", "_law_at", "_law_cell", "_law_great", "_law_mixed"] ["_law_pen_here", "_law_many_here"] (defScope sDraw) := ⟨rfl, rfl, rfl, by decide +kernel, rfl, by decide +kernel, by decide +kernel⟩

theorem ok_draw (D : DefIn K mg "_law_draw" sDraw) (B : Blt mg) : Ok P w K mg base "_law_draw" (defArgs sDraw) ["_law_pen_here", "_law_many_here"] 1 spDraw := by
  refine D.ok scDraw (fun vs G Q E h => ?_) (fun _ _ _ _ _ _ us hl => match us, hl with | [_, _], _ => rfl) (fun f cdv A out t G vs Q E hr h => ?_)
  · obtain ⟨p, l, c, m, rfl, _⟩ := h
    rfl
  · obtain ⟨p, l, c, m, rfl, ⟨n, g, ns, hp, hl, lp, n0, nc, g0⟩, hc, m0, mm, k⟩ := h
    have hu64 := hr.units
    refine ⟨_, (pss_cons (ps_if (pt_cmpR op_gt (pe_ix ix_list (pv 0) pe_int (fun _ _ => rfl)) pe_int (nomark _)) (pss_cons (ps_set (i := 2) scDraw.nd rfl (by first | exact Or.inl rfl | exact Or.inr rfl) (pe_op op_mod (pe_callTy call_int1 (by rfl) B.n_int bt_int (pa_cons (pe_ix ix_list (pv 0) pe_int (fun _ _ => rfl)) pa_nil)) (pv 1)))
    (pss_cons (ps_asg (pe_op op_fdiv (pe_callTy call_int1 (by rfl) B.n_int bt_int (pa_cons (pe_ix ix_list (pv 0) pe_int (fun _ _ => rfl)) pa_nil)) (pv 1)) (pg_sub (pv 0) pe_int set_list))
    (pss_one (ps_ret (pv 2))))) pss_nil)
    (pss_cons (ps_set (i := 3) scDraw.nd rfl (by first | exact Or.inl rfl | exact Or.inr rfl) (pe_ix ix_list (pv 0) pe_int (fun _ _ => rfl)))
    (pss_cons (ps_asg (pe_op op_add (pv 3) pe_int) (pg_sub (pv 0) pe_int set_list))
    (pss_cons (ps_set (i := 4) scDraw.nd rfl (by first | exact Or.inl rfl | exact Or.inr rfl) (pe_op op_add (pe_op op_mul pe_int (pv 3)) pe_int))
    (pss_cons (ps_if (pt_cmpR (op_neD hu64) (pe_ix ix_list (pv 0) pe_int (fun _ _ => rfl)) (pe_lst pa_nil) (nomark _)) (pss_one (ps_set (i := 4) scDraw.nd rfl (by first | exact Or.inl rfl | exact Or.inr rfl) (pe_ix ix_list (pe_ix ix_list (pv 0) pe_int (fun _ _ => rfl)) (pe_op op_mod (pe_callTy call_int1 (by rfl) B.n_int bt_int (pa_cons (pv 3) pa_nil)) (pe_callB call_len (by rfl) B.n_len bt_len (pa_cons (pe_ix ix_list (pv 0) pe_int (fun _ _ => rfl)) pa_nil))) (fun _ _ => rfl)))) pss_nil)
    (pss_cons (ps_if (PW.pt (pw_and (pt_cmpR op_lt (pv 3) (pe_callB call_len (by rfl) B.n_len bt_len (pa_cons (pe_ix ix_list (pv 0) pe_int (fun _ _ => rfl)) pa_nil)) (nomark _)) (pw_and1 (pt_cmpR op_ge (pe_callB call_abs (by rfl) B.n_abs bt_abs (pa_cons (pv 4) pa_nil)) (pe_op op_pow pe_int pe_int) (nomark _))))) (pss_cons (ps_set (i := 5) scDraw.nd rfl (by first | exact Or.inl rfl | exact Or.inr rfl) (pe_op op_add (pe_op op_mul pe_int (pe_op op_sub (pe_callB call_abs (by rfl) B.n_abs bt_abs (pa_cons (pv 4) pa_nil)) (pe_op op_pow pe_int pe_int))) (pe_callTy call_int1 (by rfl) B.n_int bt_int (pa_cons (pe_cmpR op_lt (pv 4) pe_int (nomark _)) pa_nil))))
    (pss_cons (ps_asg (pe_op op_fdiv (pe_callTy call_int1 (by rfl) B.n_int bt_int (pa_cons (pv 5) pa_nil)) (pv 1)) (pg_sub (pv 0) pe_int set_list))
    (pss_one (ps_ret (pe_op op_mod (pe_callTy call_int1 (by rfl) B.n_int bt_int (pa_cons (pv 5) pa_nil)) (pv 1)))))) pss_nil)
    (pss_cons (ps_set (i := 6) scDraw.nd rfl (by first | exact Or.inl rfl | exact Or.inr rfl) (pe_op op_mod (pe_callTy call_int1 (by rfl) B.n_int bt_int (pa_cons (pe_op op_pow (pe_op op_add (pe_op op_add (pe_op op_mod (pe_callTy call_int1 (by rfl) B.n_int bt_int (pa_cons (pv 4) pa_nil)) pe_int) (pe_op op_mul pe_int (pv 3))) pe_int) pe_int) pa_nil)) pe_int))
    (pss_cons (ps_set (i := 6) scDraw.nd rfl (by first | exact Or.inl rfl | exact Or.inr rfl) (pe_op op_mod (pe_callTy call_int1 (by rfl) B.n_int bt_int (pa_cons (pe_op op_pow (pe_op op_add (pe_op op_add (pe_op op_mul (pv 6) (pe_op op_add (pe_op op_mul pe_int (pv 3)) pe_int)) (pe_op op_mul (pe_op op_mul pe_int (pv 3)) (pv 3))) pe_int) pe_int) pa_nil)) pe_int))
    (pss_one (ps_ret (pe_op op_mod (pe_callTy call_int1 (by rfl) B.n_int bt_int (pa_cons (pe_op op_fdiv (pv 6) pe_int) pa_nil)) (pv 1)))))))))))), ?_⟩
    refine ⟨_, rfl, p, _, _, _, rfl, rfl, SqL.of hp, rfl, _, _, rfl, rfl, _, rfl, ?_⟩
    refine ite2 (fun hg => ?_) (fun hg => ?_)
    · have hg := of_decide_eq_true hg
      refine ⟨_, rfl, p, _, _, _, rfl, rfl, SqL.of hp, rfl, .inl ⟨_, rfl, _, rfl, _, _, rfl, rfl, m0, ?_⟩⟩
      refine ⟨_, rfl, p, _, _, _, rfl, rfl, SqL.of hp, rfl, .inl ⟨_, rfl, _, rfl, _, _, rfl, rfl, ⟨m0, by omega⟩, _, rfl, p, _, _, 2, rfl, rfl, hp, rfl, ?_⟩⟩
      refine ⟨_, rfl, ?_⟩
      refine k (g % m) _ (mod_lt g m m0).1 (mod_lt g m m0).2 Kp.self ⟨n, g / m, ns, upd_same, ?_, lp, n0, by omega, Int.ediv_nonneg g0 (by omega)⟩
      rw [upd_ne lp]
      exact hl
    · -- at = pen[1]; pen[1] = at + 1; cell = ..
      refine ⟨_, rfl, p, _, _, _, rfl, rfl, SqL.of hp, rfl, ?_⟩
      refine ⟨_, rfl, _, _, rfl, rfl, _, rfl, p, _, _, 1, rfl, rfl, hp, rfl, ?_⟩
      have hp1 : (upd G p (.lst [.ref l, .int (n + 1), .int g])) p = some (.lst [.ref l, .int (n + 1), .int g]) := upd_same
      have hl1 : (upd G p (.lst [.ref l, .int (n + 1), .int g])) l = some (.lst (ns.map V.int)) := by
        rw [upd_ne lp]
        exact hl
      refine ⟨_, rfl, _, _, rfl, rfl, .inl ⟨by decide, by decide⟩, _, _, rfl, rfl, ?_⟩
      -- if pen[0] != []
      refine ⟨_, rfl, p, _, _, _, rfl, rfl, SqL.of hp1, rfl, by show 0 ≤ sizeLine; decide, fun q hq => ?_⟩
      have lq : l ≠ q := ne_of_none hl1 hq
      have pq : p ≠ q := ne_of_none hp1 hq
      have hl2 : (upd (upd G p (.lst [.ref l, .int (n + 1), .int g])) q (.lst [])) l = some (.lst (ns.map V.int)) := by
        rw [upd_ne lq]
        exact hl1
      have hp2 : (upd (upd G p (.lst [.ref l, .int (n + 1), .int g])) q (.lst [])) p = some (.lst [.ref l, .int (n + 1), .int g]) := by
        rw [upd_ne pq]
        exact hp1
      have nq : G q = none := by
        rw [upd_ne pq.symm] at hq
        exact hq
      have kp2 : Kp p G (upd (upd G p (.lst [.ref l, .int (n + 1), .int g])) q (.lst [])) := Kp.fresh Kp.self nq
      have hq2 : (upd (upd G p (.lst [.ref l, .int (n + 1), .int g])) q (.lst [])) q = some (.lst []) := upd_same
      refine ⟨.list (ns.map PyData.int), .list [], .lst (SqL.of hl2) (dp_ints ns), .lst (SqL.of hq2) .nil, shaped_ints ns, rfl, _, rfl, ?_⟩
      rw [eqv_nil_r]
      refine ite2 (fun hne => ?yes) (fun hne => ?no)
      case' yes =>
        have hz : 0 < (ns.map V.int).length := by
          cases ns with
          | nil => exact absurd hne (by decide)
          | cons a r => exact Nat.succ_pos _
        obtain ⟨v, hv, hm⟩ := mod_at (xs := ns.map V.int) n hz
        obtain ⟨cell, rfl⟩ := mem_ints hm
        refine ⟨_, rfl, p, _, _, _, rfl, rfl, SqL.of hp2, rfl, _, rfl, .inl ⟨_, rfl, ?_⟩⟩
        refine ⟨_, rfl, p, _, _, _, rfl, rfl, SqL.of hp2, rfl, .ref l, _, rfl, .inl ⟨_, SqL.of hl2, rfl⟩, _, _, rfl, rfl, by omega, l, _, _, _, rfl, rfl, SqL.of hl2, hv, ?_⟩
      all_goals
        refine ⟨_, rfl, _, rfl, p, _, _, _, rfl, rfl, SqL.of hp2, rfl, .ref l, _, rfl, .inl ⟨_, SqL.of hl2, rfl⟩, _, _, rfl, rfl, _, rfl, ?_⟩
        refine ite2 (fun _ => ?_) (fun _ => ?_)
        case' _ =>
          refine ⟨_, rfl, _, rfl, _, _, rfl, rfl, ⟨by decide, by decide, by decide⟩, _, _, rfl, rfl, _, rfl, ?_⟩
          rw [pow18]
          refine ite2 (fun hbig => ?_) (fun hbig => ?_)
          case _ =>
            have hbig := of_decide_eq_true hbig
            refine ⟨_, rfl, _, rfl, _, _, rfl, rfl, ⟨by decide, by decide, by decide⟩, _, _, rfl, rfl, _, _, rfl, rfl, .inl ⟨by decide, by decide⟩, _, rfl, _, _, rfl, rfl, .inr ⟨_, rfl, _, _, rfl, rfl, ?_⟩⟩
            refine ⟨_, rfl, .inl ⟨_, rfl, _, rfl, _, _, rfl, rfl, ⟨m0, by omega⟩, _, rfl, p, _, _, 2, rfl, rfl, hp2, rfl, ?_⟩⟩
            refine ⟨_, rfl, .inl ⟨_, rfl, _, rfl, _, _, rfl, rfl, m0, ?_⟩⟩
            refine k _ _ (mod_lt _ m m0).1 (mod_lt _ m m0).2 (Kp.trans kp2 Kp.self) ⟨n + 1, _, ns, upd_same, ?_, lp, by omega, by omega, Int.ediv_nonneg ?_ (by omega)⟩
            · rw [upd_ne lp]
              exact hl2
            · rw [pow18]
              exact great_nonneg _ _ hbig
        all_goals
          refine ⟨_, rfl, .inl ⟨_, rfl, _, _, rfl, rfl, by show (0 : Int) < _; decide, _, rfl, _, _, rfl, rfl, .inl ⟨by decide, by decide⟩, _, _, rfl, rfl, _, _, rfl, rfl, _, _, rfl, rfl, ⟨by decide, by decide, ?_⟩, .inl ⟨_, rfl, _, _, rfl, rfl, by show (0 : Int) < _; decide, ?_⟩⟩⟩
          · omega
          refine ⟨_, rfl, _, rfl, _, _, rfl, rfl, .inl ⟨by decide, by decide⟩, _, _, rfl, rfl, _, _, rfl, rfl, .inr ⟨by omega, by omega⟩, ?_⟩
          refine ⟨_, rfl, _, _, rfl, rfl, .inl ⟨by decide, by decide⟩, _, rfl, _, _, rfl, rfl, .inr ⟨by omega, by omega⟩, _, _, rfl, rfl, _, _, rfl, rfl, _, _, rfl, rfl, ⟨by decide, by decide, ?_⟩, .inl ⟨_, rfl, _, _, rfl, rfl, by show (0 : Int) < _; decide, ?_⟩⟩
          · exact draw_bound _ _ _ _ _ ⟨(mod_lt _ _ (by decide)).1, Int.lt_trans (mod_lt _ _ (by decide)).2 (by decide)⟩ ⟨n0, by omega⟩ (by decide) (by decide) (by decide)
          refine ⟨_, rfl, _, _, rfl, rfl, ⟨by decide, by decide⟩, .inl ⟨_, rfl, _, rfl, _, _, rfl, rfl, m0, ?_⟩⟩
          exact k _ _ (mod_lt _ m m0).1 (mod_lt _ m m0).2 kp2 ⟨n + 1, g, ns, hp2, hl2, lp, by omega, by omega, g0⟩
theorem scPick : FnScope ["_law_pen_here", "_law_some"] ["_law_pen_here", "_law_some"] (defScope sPick) := ⟨rfl, rfl, rfl, by decide +kernel, rfl, by decide +kernel, by decide +kernel⟩
theorem ok_pick (D : DefIn K mg "_law_pick" sPick) (B : Blt mg) (F__law_draw : Ok P w K mg base "_law_draw" (defArgs sDraw) ["_law_pen_here", "_law_many_here"] 1 spDraw) : Ok P w K mg base "_law_pick" (defArgs sPick) ["_law_pen_here", "_law_some"] 2 (spPick K) := by
  refine D.ok scPick (fun vs G Q E h => ?_) (fun _ _ _ _ _ _ us hl => match us, hl with | [_, _], _ => rfl) (fun f cdv A out t G vs Q E hr h => ?_)
  · obtain ⟨p, l, a, c, xs, rfl, _⟩ := h
    rfl
  · obtain ⟨p, l, a, c, xs, rfl, hP, hc, ha, hS, h0, h1, k⟩ := h
    refine ⟨_, pss_one (ps_ret (pe_ix ix_list (pv 1) (pe_own F__law_draw (hr.mono (by decide)) takes0 (pa_cons (pv 0) (pa_cons (pe_callB call_len (by rfl) B.n_len bt_len (pa_cons (pv 1) pa_nil)) pa_nil))) (fun _ _ => rfl))), ?_⟩
    refine ⟨_, rfl, _, rfl, _, rfl, .ref a, _, rfl, .inl ⟨xs, hS, rfl⟩, p, l, c, (xs.length : Int), rfl, hP, hc, by omega, by omega, fun d G' d0 dm kp P' => ?_⟩
    obtain ⟨v, hv, _, hm⟩ := at_lt d d0 dm
    exact ⟨a, xs, d, v, rfl, rfl, kp.seq ha hS, hv, k v G' hm kp P'⟩
end
end K08
set_option Elab.async false
set_option linter.all false
set_option maxRecDepth 100000
set_option maxHeartbeats 4000000
/-! Texts of letters by isascii, isalpha, islower. -/
namespace Qh
open PySem PySem.Spec PyProof.Rows L2
theorem uni128 : ∀ c : Fin 128, (Unicode.isAlpha c.val && !(Unicode.isUpper c.val || Unicode.isTitle c.val)) = ltr c.val ∧ (ltr c.val = true → Unicode.isLower c.val = true) := by decide +kernel
theorem uni_all (l : List Nat) (h : l.all (fun c => decide (c < 128)) = true) : (l.all Unicode.isAlpha && !l.any fun c => Unicode.isUpper c || Unicode.isTitle c) = l.all ltr := by
  induction l with
  | nil => rfl
  | cons a r ih =>
    rw [List.all_cons, Bool.and_eq_true] at h
    have ha := of_decide_eq_true h.1
    have h1 := (uni128 ⟨a, ha⟩).1
    have ih := ih h.2
    simp only [List.all_cons, List.any_cons, Bool.not_or]
    rw [← ih, ← h1]
    simp only [Bool.not_or]
    cases Unicode.isAlpha a <;> cases Unicode.isUpper a <;> cases Unicode.isTitle a <;> simp
theorem ltr_ascii (c : Nat) (h : ltr c = true) : c < 128 := by
  unfold ltr at h
  simp at h
  omega
theorem letters_now (x : Str) : (if Txt.isascii x = true then (if Txt.isalpha x = true then Txt.islower x else false) else false) = (decide (1 ≤ (x.length : Int)) && x.cps.toList.all ltr) := by
  have e1 : Txt.isascii x = x.cps.toList.all (fun c => decide (c < 128)) := by
    unfold Txt.isascii
    rw [← Array.all_toList]
  have e2 : Txt.isalpha x = (decide (x.length > 0) && x.cps.toList.all Unicode.isAlpha) := by
    unfold Txt.isalpha
    rw [← Array.all_toList]
  have e3 : Txt.islower x = (x.cps.toList.any Unicode.isLower && !x.cps.toList.any fun c => Unicode.isUpper c || Unicode.isTitle c) := by
    unfold Txt.islower
    rw [← Array.any_toList, ← Array.any_toList]
  have el : x.length = x.cps.toList.length := by simp [Str.length]
  rw [e1, e2, e3, el]
  generalize x.cps.toList = l
  cases ha : l.all (fun c => decide (c < 128)) with
  | false =>
    have : l.all ltr = false := by
      cases hl : l.all ltr with
      | false => rfl
      | true =>
        rw [List.all_eq_true] at hl
        rw [← ha]
        symm
        rw [List.all_eq_true]
        exact fun c hc => decide_eq_true (ltr_ascii c (hl c hc))
    rw [this]
    simp
  | true =>
    have h := uni_all l ha
    cases l with
    | nil => rfl
    | cons a r =>
      have hlow : (a :: r).all ltr = true → (a :: r).any Unicode.isLower = true := fun hh => by
        rw [List.all_eq_true] at hh
        rw [List.any_eq_true]
        have h1 := hh a (List.mem_cons_self)
        exact ⟨a, List.mem_cons_self, (uni128 ⟨a, ltr_ascii a h1⟩).2 h1⟩
      rw [← h] at hlow ⊢
      rw [if_pos rfl]
      have p1 : decide ((a :: r).length > 0) = true := decide_eq_true (Nat.succ_pos _)
      have p2 : decide (1 ≤ (((a :: r).length : Nat) : Int)) = true := by
        refine decide_eq_true ?_
        have := Nat.succ_pos r.length
        rw [List.length_cons]
        omega
      rw [p1, p2]
      revert hlow
      generalize (a :: r).all Unicode.isAlpha = p
      generalize (a :: r).any Unicode.isLower = q
      generalize ((a :: r).any fun c => Unicode.isUpper c || Unicode.isTitle c) = s
      intro hlow
      cases p <;> cases q <;> cases s <;> simp at hlow ⊢
end Qh
set_option Elab.async false
set_option linter.all false
set_option maxRecDepth 100000
set_option maxHeartbeats 4000000
namespace K08
open PySem PySem.Spec PyProof.Rows L2 Qh
abbrev sLetters : Stmt := top 5
abbrev sIsWord : Stmt := top 6
section
variable {P : Program} {w : World} {K : PySem.W.Frag} {mg : Str → Option Value} {base : Heap}
theorem scLetters : FnScope ["value", "most"] ["value", "most"] (defScope sLetters) := ⟨rfl, rfl, rfl, by decide +kernel, rfl, by decide +kernel, by decide +kernel⟩
theorem ok_letters (D : DefIn K mg "is_letters" sLetters) (B : Blt mg) : Ok P w K mg base "is_letters" (defArgs sLetters) ["value", "most"] 1 (spLetters K) := by
  refine D.ok scLetters (fun vs G Q E h => ?_) (fun _ _ _ _ _ _ us hl => match us, hl with | [_, _], _ => rfl) (fun f cdv A out t G vs Q E hr h => ?_)
  · obtain ⟨v, m, rfl, _⟩ := h
    rfl
  · obtain ⟨v, m, rfl, hv, k⟩ := h
    refine ⟨_, (pss_cons (ps_if (PW.pt (pw_or (pt_not (pt_val (pe_callB call_isi (by rfl) B.n_isinstance bt_isinstance (pa_cons (pv 0) (pa_cons (pe_bltn (v := .ty "str") (by rfl) B.n_str bt_str rfl) pa_nil))))) (pw_or1 (pt_cmpR op_gt (pe_callB call_len (by rfl) B.n_len bt_len (pa_cons (pv 0) pa_nil)) (pv 1) (nomark _))))) (pss_one (ps_ret pe_bl)) pss_nil)
      (pss_one (ps_ret (pe_and (pe_bm0 PySem.F.plainAttrs_str PySem.F.slot_str_isascii PySem.F.type_str_isascii mt_isascii (pv 0)) (pe_and (pe_bm0 PySem.F.plainAttrs_str PySem.F.slot_str_isalpha PySem.F.type_str_isalpha mt_isalpha (pv 0)) (pe_one (pe_bm0 PySem.F.plainAttrs_str PySem.F.slot_str_islower PySem.F.type_str_islower mt_islower (pv 0)))))))), ?_⟩
    rcases hv with ⟨x, rfl, hx⟩ | ⟨hno, ty, hty, hk⟩
    · refine ⟨_, rfl, _, _, _, _, _, rfl, .ty _, .base (.str x), kit_ty (r := true) (by decide +kernel), _, rfl, ?_⟩
      refine iteF ?_
      refine ⟨_, rfl, .str x, x.length, rfl, ⟨big_line hx, rfl⟩, _, rfl, _, _, rfl, rfl, _, rfl, ?_⟩
      have hk := k G (Same.refl G)
      have e : lettersV (.str x) m = (decide ((x.length : Int) ≤ m) && (decide (1 ≤ (x.length : Int)) && x.cps.toList.all ltr)) := by
        show lettersS x m = _
        unfold lettersS
        cases decide (1 ≤ (x.length : Int)) <;> cases decide ((x.length : Int) ≤ m) <;> rfl
      rw [e, ← letters_now] at hk
      refine ite2 (fun h1 => ?_) (fun h1 => ?_)
      · have h1 : decide ((x.length : Int) ≤ m) = false := by
          have := of_decide_eq_true h1
          exact decide_eq_false (by omega)
        rw [h1] at hk
        exact hk
      · have h1 : decide ((x.length : Int) ≤ m) = true := by
          have : ¬ ((x.length : Int) > m) := fun z => h1 (decide_eq_true z)
          exact decide_eq_true (by omega)
        rw [h1, Bool.true_and] at hk
        refine ⟨_, rfl, rfl, x, rfl, rfl, trivial, _, rfl, ?_⟩
        refine ite2 (fun h2 => ?_) (fun h2 => ?_)
        · rw [if_pos h2] at hk
          refine ⟨_, rfl, rfl, x, rfl, rfl, trivial, _, rfl, ?_⟩
          refine ite2 (fun h3 => ?_) (fun h3 => ?_)
          · rw [if_pos h3] at hk
            exact ⟨_, rfl, rfl, x, rfl, rfl, trivial, hk⟩
          · rw [if_neg h3] at hk
            exact hk
        · rw [if_neg h2] at hk
          exact hk
    · refine ⟨_, rfl, _, _, _, _, _, rfl, .ty _, hty, hk, _, rfl, ?_⟩
      refine iteT ?_
      have h := k G (Same.refl G)
      rw [lettersV_other hno] at h
      exact h
theorem scIsWord : FnScope ["value"] ["value"] (defScope sIsWord) := ⟨rfl, rfl, rfl, by decide +kernel, rfl, by decide +kernel, by decide +kernel⟩
theorem ok_isWord (D : DefIn K mg "is_word" sIsWord) (hM : ∃ t, mg "MOST_LETTERS" = some (.int 10 t)) (F_is_letters : Ok P w K mg base "is_letters" (defArgs sLetters) ["value", "most"] 1 (spLetters K)) : Ok P w K mg base "is_word" (defArgs sIsWord) ["value"] 2 (spIsWord K) := by
  refine D.ok scIsWord (fun vs G Q E h => ?_) (fun _ _ _ _ _ _ us hl => match us, hl with | [_], _ => rfl) (fun f cdv A out t G vs Q E hr h => ?_)
  · obtain ⟨v, rfl, _⟩ := h
    rfl
  · obtain ⟨v, rfl, hv, k⟩ := h
    obtain ⟨tk, hM⟩ := hM
    refine ⟨_, pss_one (ps_ret (pe_own F_is_letters (hr.mono (by decide)) takes0 (pa_cons (pv 0) (pa_cons (pe_glob (v := .int 10) rfl hM ⟨_, rfl⟩) pa_nil)))), ?_⟩
    exact ⟨_, rfl, v, 10, rfl, hv, k⟩
end
end K08
set_option Elab.async false
set_option linter.all false
set_option maxRecDepth 100000
set_option maxHeartbeats 4000000
/-! Own errors with one field or more, made by their own __init__. -/
namespace Qh
open PySem PySem.Spec PyProof.Rows L2 TL
/-- the class at C as the top has left it -/
structure ErrC (K : PySem.W.Frag) (mg : Str → Option Value) (x : Str) (C : Addr) : Prop where
  g : mg x = some (.ref C)
  o : OexC K C
  xf : XfC K C
  ec : ExcC K C
/-- C.__init__(self, f): self.f = f -/
def spErr1 (C : Addr) (f : Str) : Sp := fun vs G Q _ => ∃ (a : Addr) (v : V), vs = [.ref a, v] ∧ G a = some (exo a C none) ∧ ∀ d, G d = none → d ≠ a → Q .non (upd (upd G d (exd d [(f, v)])) a (exo a C (some d)))
structure Err1 (P : Program) (w : World) (K : PySem.W.Frag) (mg : Str → Option Value) (base : Heap) (x f : Str) (C : Addr) : Prop where
  c : ErrC K mg x C
  no : PySem.W.findIn K (.ref C) f = some none
  init : ∃ (fI : Addr) (fd : FuncData), PySem.W.findIn K (.ref C) "__init__" = some (some (.ref fI)) ∧ PySem.W.typeIn K (.ref fI) = some (.type "function") ∧ Binds K fd ["self", f] [] ∧
    FnOk P w K mg base (L2.CX P w) 1 fI fd ["self", f] (spErr1 C f)
theorem err_heap {G : Hp} {a d C : Addr} {u : HO} {fs : List (Str × V)} (ha : G a = none) (hd : d ≠ a) :
    upd (del (upd (upd (upd G a (exo a C none)) d (exd d fs)) a (exo a C (some d))) a) d u = upd G d u := by
  funext b
  by_cases hb : b = d
  · subst hb
    rw [upd_same, upd_same]
  · rw [upd_ne hb, upd_ne hb]
    by_cases hba : b = a
    · subst hba
      rw [del_same, ha]
    · rw [del_ne hba, upd_ne hba, upd_ne hb, upd_ne hba]
section
variable {X : Cx} {x f : Str} {C : Addr} {e : Expr} {te : TE} {p pos : Pos}
end
/-! ### parts between blanks -/
theorem spl_len (S : List Nat) : ∀ (l : List Nat) (k : Nat) (acc : List Nat), (∀ p ∈ spl S k acc l, p.length ≤ acc.length + l.length) ∧ (spl S k acc l).length ≤ l.length + 1
  | [], k, acc => by
    rw [spl_nil]
    exact ⟨fun p hp => by rw [List.mem_singleton.mp hp]; simp, by simp⟩
  | c :: r, 0, acc => by
    by_cases h : pre S (c :: r) = true
    · rw [spl_hit h]
      have ih := spl_len S r (S.length - 1) []
      refine ⟨fun p hp => ?_, by simp only [List.length_cons]; omega⟩
      rcases List.mem_cons.mp hp with rfl | hp
      · omega
      · have := ih.1 p hp
        simp only [List.length_nil, List.length_cons] at this ⊢
        omega
    · rw [spl_miss (by simpa using h)]
      have ih := spl_len S r 0 (acc ++ [c])
      refine ⟨fun p hp => ?_, by simp only [List.length_cons]; omega⟩
      have := ih.1 p hp
      simp only [List.length_append, List.length_cons, List.length_nil] at this ⊢
      omega
  | c :: r, k + 1, acc => by
    have ih := spl_len S r k acc
    have e : spl S (k + 1) acc (c :: r) = spl S k acc r := rfl
    rw [e]
    refine ⟨fun p hp => ?_, by simp only [List.length_cons]; omega⟩
    have := ih.1 p hp
    simp only [List.length_cons]
    omega
def blank : Str := Str.ofString " "
theorem tl_blank : tl blank = [32] := by decide +kernel
theorem kind_blank : blank.cps.all (· < 256) = true := by decide +kernel
def partsOf (x : Str) : List Str := Txt.split x blank
theorem parts_spl (x : Str) : (partsOf x).map tl = spl [32] 0 [] (tl x) := by
  have h := split_spl x blank (by rw [tl_blank]; simp) (kind_ok kind_blank)
  rw [tl_blank] at h
  exact h
theorem parts_len {x p : Str} (h : p ∈ partsOf x) : p.length ≤ x.length := by
  have h1 : tl p ∈ spl [32] 0 [] (tl x) := by
    rw [← parts_spl]
    exact List.mem_map_of_mem h
  have h2 := (spl_len [32] (tl x) 0 []).1 _ h1
  rw [len_tl, len_tl]
  simpa using h2
theorem parts_count (x : Str) : (partsOf x).length ≤ x.length + 1 := by
  have h2 := (spl_len [32] (tl x) 0 []).2
  rw [← parts_spl, List.length_map, ← len_tl] at h2
  exact h2
/-- words joined by blanks, parted again -/
theorem parts_join {ps : List Str} (hne : ps ≠ []) (h : ∀ p ∈ ps, 32 ∉ tl p) : partsOf (Txt.join blank ps) = ps := split_join tl_blank kind_blank hne h
def spTextOf (K : PySem.W.Frag) : Sp := fun vs G Q _ => ∃ (a : Addr) (ys : List Str), vs = [.ref a] ∧ (SqL K G a (ys.map V.str) ∨ SqT K G a (ys.map V.str)) ∧ (ys.map (·.length)).sum + ys.length ≤ 1000000 ∧ Q (.str (Txt.join blank ys)) G

theorem findIdx_some {α : Type} {p : α → Bool} : ∀ {xs : List α} {i : Nat} {a : α}, xs[i]? = some a → p a = true → (∀ (j : Nat) (b : α), j < i → xs[j]? = some b → p b = false) → xs.findIdx? p = some i
  | [], i, a, h, _, _ => by simp at h
  | x :: r, 0, a, h, ha, _ => by
    have e : x = a := by simpa using h
    rw [List.findIdx?_cons, e, ha]
    rfl
  | x :: r, i + 1, a, h, ha, hb => by
    have h0 : p x = false := hb 0 x (by omega) (by simp)
    have ih := findIdx_some (p := p) (xs := r) (i := i) (a := a) (by simpa using h) ha fun j b hj hjb => hb (j + 1) b (by omega) (by simpa using hjb)
    rw [List.findIdx?_cons, h0, ih]
    rfl
theorem findIdx_none {α : Type} {p : α → Bool} : ∀ {xs : List α}, (∀ (j : Nat) (b : α), xs[j]? = some b → p b = false) → xs.findIdx? p = none
  | [], _ => rfl
  | x :: r, hb => by
    have h0 : p x = false := hb 0 x (by simp)
    have ih := findIdx_none (p := p) (xs := r) fun j b hjb => hb (j + 1) b (by simpa using hjb)
    rw [List.findIdx?_cons, h0, ih]
    rfl
theorem map_at {α β : Type} {f : α → β} {l : List α} {i : Nat} {b : β} (h : (l.map f)[i]? = some b) : ∃ a, l[i]? = some a ∧ b = f a := by
  rw [List.getElem?_map] at h
  cases e : l[i]? with
  | none => rw [e] at h; cases h
  | some a => rw [e] at h; exact ⟨a, rfl, (Option.some.inj h).symm⟩

/-! ### texts put together -/
def nothing : Str := Str.ofString ""
/-- signs that are plain and no blank -/
def clean (x : Str) : Bool := (tl x).all fun c => decide (c < 128) && decide (c ≠ 32)
theorem sum_le {l : List Nat} {m : Nat} (h : ∀ x ∈ l, x ≤ m) : l.sum ≤ l.length * m := by
  induction l with
  | nil => simp
  | cons a r ih =>
    have h1 := h a List.mem_cons_self
    have h2 := ih fun x hx => h x (List.mem_cons_of_mem _ hx)
    simp only [List.sum_cons, List.length_cons, Nat.succ_mul]
    omega
theorem clean_txt {x : Str} (h : clean x = true) : txt x = true := by
  unfold clean at h
  unfold txt
  rw [← Array.all_toList]
  rw [List.all_eq_true] at h ⊢
  intro c hc
  have := h c hc
  simp at this ⊢
  omega
theorem clean_blank {x : Str} (h : clean x = true) : 32 ∉ tl x := fun hm => by
  unfold clean at h
  rw [List.all_eq_true] at h
  have := h 32 hm
  simp at this

section
variable {X : Cx}
end
theorem word_clean {x : Str} (h : wordS x = true) : clean x = true := by
  unfold wordS lettersS at h
  have h2 := (Bool.and_eq_true_iff.mp h).2
  unfold clean
  rw [List.all_eq_true] at h2 ⊢
  intro c hc
  have := h2 c hc
  unfold ltr at this
  simp at this ⊢
  omega
/-- the first one, from those that are found -/
theorem first_of {α : Type} {q : α → Bool} {z : α} {xs : List α} : ∀ (cs : List Nat), cs = (List.range xs.length).filter (fun k => q (xs.getD k z)) → xs.findIdx? q = cs[0]?
  | [], h => by
    refine findIdx_none fun j b hb => ?_
    cases e : q b with
    | false => rfl
    | true =>
      have hj := (List.getElem?_eq_some_iff.mp hb).1
      have : j ∈ (List.range xs.length).filter (fun k => q (xs.getD k z)) := List.mem_filter.mpr ⟨List.mem_range.mpr hj, by rw [List.getD_eq_getElem?_getD, hb]; exact e⟩
      rw [← h] at this
      cases this
  | k :: r, h => by
    have hk : k ∈ (List.range xs.length).filter (fun k => q (xs.getD k z)) := by
      rw [← h]
      exact List.mem_cons_self
    obtain ⟨h1, h2⟩ := List.mem_filter.mp hk
    have h1 := List.mem_range.mp h1
    have hp : (k :: r).Pairwise (· < ·) := by
      rw [h]
      exact List.Pairwise.filter _ List.pairwise_lt_range
    refine findIdx_some (List.getElem?_eq_getElem h1) (by simpa [List.getD_eq_getElem?_getD, List.getElem?_eq_getElem h1] using h2) fun j b hj hb => ?_
    cases e : q b with
    | false => rfl
    | true =>
      have hjl := (List.getElem?_eq_some_iff.mp hb).1
      have : j ∈ k :: r := by
        rw [h]
        exact List.mem_filter.mpr ⟨List.mem_range.mpr hjl, by rw [List.getD_eq_getElem?_getD, hb]; exact e⟩
      rcases List.mem_cons.mp this with e | e
      · omega
      · have := (List.pairwise_cons.mp hp).1 j e
        omega
def told (ps : List Str) : PyData := .tuple [.str (Str.ofString "told"), .tuple (ps.map PyData.str)]
def atIx (i : Nat) : PyData := .tuple [.str (Str.ofString "index"), .int (i : Int)]
/-- what is due of parts -/
def dueD (ys : List Str) : PyData := if ys = [] ∨ ys = [nothing] then told [] else match ys.findIdx? (fun p => !wordS p) with
  | none => told ys
  | some i => atIx i
def spDue (K : PySem.W.Frag) : Sp := fun vs G Q _ => ∃ (a : Addr) (ys : List Str), vs = [.ref a] ∧ SqL K G a (ys.map V.str) ∧ (∀ y ∈ ys, clean y = true ∧ y.length ≤ 1000) ∧ ys.length ≤ 1000 ∧ ∀ (q : Addr) (G' : Hp), Same G G' → Dp K G' (.ref q) (dueD ys) → Q (.ref q) G'
theorem eqv_str (x y : Str) : PyData.eqv (.str x) (.str y) = (x == y) := rfl
end Qh
set_option Elab.async false
set_option linter.all false
set_option maxRecDepth 100000
set_option maxHeartbeats 4000000
/-! New objects, told by what stands there and what stays; values that are no texts; repr of texts. -/
namespace Qh
open PySem PySem.Spec PyProof.Rows L2 TL
section
variable {X : Cx} {es : List Expr} {t : TA} {pos : Pos}
def nTup (t : TA) : TE := fun σ G Q => t σ G fun xs G1 => xs.length ≤ sizeLine ∧ ∀ p G', G1 p = none → Same G1 G' → G' p = some (.tup xs) → Q (.ref p) G'
def nLst (t : TA) : TE := fun σ G Q => t σ G fun xs G1 => xs.length ≤ sizeLine ∧ ∀ p G', G1 p = none → Same G1 G' → G' p = some (.lst xs) → Q (.ref p) G'
theorem pn_tup {x1} (h : PA X es t) : PE X (.Tuple es x1 pos) (nTup t) := by
  constructor
  intro pins s σ G Q I hq
  refine wpAny_Tuple_spliced (thn (h.run pos pins s σ G _ I hq) ?_)
  rintro us s1 ⟨xs, G1, I1, r, z, q⟩
  refine ⟨r.length ▸ z, ?_⟩
  have hf : G1 s1.heap.objs.size = none := I1.hok.fresh (Nat.le_refl _)
  refine ⟨.ref s1.heap.objs.size, L2.upd G1 s1.heap.objs.size (.tup xs), I1.laid (t' := s1.toks) (fun b u e => Heap.get?_push_of_some _ e) (Nat.le_refl _) ?_, rfl, q _ _ hf (Same.new hf) upd_same⟩
  exact ⟨z, us, r, ⟨_, Heap.get?_push_size _ rfl, rfl, _, rfl⟩⟩
theorem pn_lst (h : PA X es t) : PE X (.List es pos) (nLst t) := by
  constructor
  intro pins s σ G Q I hq
  refine wpAny_List_spliced (thn (h.run pos pins s σ G _ I hq) ?_)
  rintro us s1 ⟨xs, G1, I1, r, z, q⟩
  refine ⟨r.length ▸ z, ?_⟩
  have hf : G1 s1.heap.objs.size = none := I1.hok.fresh (Nat.le_refl _)
  refine ⟨.ref s1.heap.objs.size, L2.upd G1 s1.heap.objs.size (.lst xs), I1.laid (t' := s1.toks) (fun b u e => Heap.get?_push_of_some _ e) (Nat.le_refl _) ?_, rfl, q _ _ hf (Same.new hf) upd_same⟩
  exact ⟨z, us, 0, r, Heap.get?_push_size _ rfl⟩
theorem opr_imp {f : Value → Value → Sem Value} {r r' : R2} (h : OpR X f r) (k : ∀ x y G Q, r' x y G Q → r x y G Q) : OpR X f r' := fun pins s σ G x y v u Q I rx ry q => h pins s σ G x y v u Q I rx ry (k x y G Q q)
theorem callr_imp {f : Value} {r r' : List V → Hp → VK → Prop} (h : CallR X f r) (k : ∀ xs G Q, r' xs G Q → r xs G Q) : CallR X f r' := fun pins s σ G xs us Q I r q => h pins s σ G xs us Q I r (k xs G Q q)
def nCat : R2 := fun x y G Q => ∃ l b xs zs, x = .ref l ∧ y = .ref b ∧ G l = some (.lst xs) ∧ G b = some (.lst zs) ∧ xs.length + zs.length ≤ sizeLine ∧ ∀ p G', G p = none → Same G G' → G' p = some (.lst (xs ++ zs)) → Q (.ref p) G'
theorem on_cat : OpR X (binaryOp .Add) nCat := opr_imp op_cat fun x y G Q ⟨l, b, xs, zs, e1, e2, h1, h2, hz, q⟩ => ⟨l, b, xs, zs, e1, e2, h1, h2, hz, fun p hp => q p _ hp (Same.new hp) upd_same⟩
def nRep : R2 := fun x y G Q => ∃ l k xs, x = .ref l ∧ y = .int k ∧ G l = some (.lst xs) ∧ -(2 ^ 63) ≤ k ∧ k < 2 ^ 63 ∧ xs.length * k.toNat ≤ sizeLine ∧ ∀ p G', G p = none → Same G G' → G' p = some (.lst (List.replicate k.toNat xs).flatten) → Q (.ref p) G'
theorem on_rep : OpR X (binaryOp .Mult) nRep := opr_imp op_rep fun x y G Q ⟨l, k, xs, e1, e2, h1, h2, h3, hz, q⟩ => ⟨l, k, xs, e1, e2, h1, h2, h3, hz, fun p hp => q p _ hp (Same.new hp) upd_same⟩
def nList (K : PySem.W.Frag) : List V → Hp → VK → Prop := fun vs G Q => ∃ p ys, vs = [.ref p] ∧ (SqL K G p ys ∨ SqT K G p ys) ∧ ∀ l G', G l = none → Same G G' → G' l = some (.lst ys) → Q (.ref l) G'
theorem cn_list : CallR X (.type "list") (nList X.K) := callr_imp call_list_of fun xs G Q ⟨p, ys, e, h, q⟩ => ⟨p, ys, e, h, fun l hl => q l _ hl (Same.new hl) upd_same⟩
/-- tuple(a list) -/
def nTuple (K : PySem.W.Frag) : List V → Hp → VK → Prop := fun vs G Q => ∃ p ys, vs = [.ref p] ∧ SqL K G p ys ∧ ∀ l G', G l = none → Same G G' → G' l = some (.tup ys) → Q (.ref l) G'
theorem cn_tuple : CallR X (.type "tuple") (nTuple X.K) := callr_imp call_tuple_of fun xs G Q ⟨p, ys, e, h, q⟩ => ⟨p, ys, e, .inl ⟨h, fun l hl => q l _ hl (Same.new hl) upd_same⟩⟩
theorem pe_imp {e : Expr} {te te' : TE} (h : PE X e te) (k : ∀ σ G Q, te' σ G Q → te σ G Q) : PE X e te' := ⟨fun pins s σ G Q I q => h.run pins s σ G Q I (k σ G Q q)⟩
/-- {'k': a text} -/
def nDict1 (k v : Str) : TE := fun _ G Q => ∀ p G', G p = none → Same G G' → G' p = some (.dK [(.inr k, .str v)]) → Q (.ref p) G'
theorem pn_dict1 {k v : Str} {j1 j2 : Nat} {p1 p2 : Pos} : PE X (.Dict [some (.Constant (.str k) j1 p1)] [.Constant (.str v) j2 p2] pos) (nDict1 k v) := by
  refine pe_imp (pe_disp (pps_cons pe_str pe_str pps_nil) rfl rfl (by simp) (by show 1 ≤ 15; decide)) fun σ G Q q p hp => ?_
  refine ⟨upd_same, [(.inr k, .str v)], rfl, by show 1 ≤ 15; decide, ?_⟩
  rw [upd_upd]
  exact q p _ hp (Same.new hp) upd_same
end
/-! ### what is read stays -/
mutual
theorem dp_same {K : PySem.W.Frag} {G G' : Hp} (s : Same G G') : ∀ {v : V} {d : PyData}, Dp K G v d → Dp K G' v d
  | _, _, .non => .non
  | _, _, .bl b => .bl b
  | _, _, .int i => .int i
  | _, _, .str x => .str x
  | _, _, .lst h r => .lst (s.seq h) (dps_same s r)
  | _, _, .tup h r => .tup (by
      rcases h with (h | ⟨o, h⟩) | h
      · exact .inl (.inl (s _ _ h))
      · exact .inl (.inr ⟨o, s _ _ h⟩)
      · exact .inr h) (dps_same s r)
theorem dps_same {K : PySem.W.Frag} {G G' : Hp} (s : Same G G') : ∀ {vs : List V} {ds : List PyData}, DpAll K G vs ds → DpAll K G' vs ds
  | _, _, .nil => .nil
  | _, _, .cons h r => .cons (dp_same s h) (dps_same s r)
end
/-- no text, of a known type -/
def Odd (K : PySem.W.Frag) (G : Hp) (v : V) : Prop := (∀ x, v ≠ .str x) ∧ ((v = .non ∨ (∃ b, v = .bl b) ∨ ∃ i, v = .int i) ∨ ∃ a o, v = .ref a ∧ G a = some o ∧ ((∃ xs, o = .lst xs) ∨ (∃ xs, o = .tup xs) ∨ ∃ kvs, o = .dK kvs))
theorem Odd.same {K : PySem.W.Frag} {G G' : Hp} {v : V} (h : Odd K G v) (s : Same G G') : Odd K G' v := by
  obtain ⟨h1, h2 | ⟨a, o, e, ha, h3⟩⟩ := h
  · exact ⟨h1, .inl h2⟩
  · exact ⟨h1, .inr ⟨a, o, e, s _ _ ha, h3⟩⟩
theorem Odd.known {K : PySem.W.Frag} {G : Hp} {v : V} (h : Odd K G v) : Known K G v := by
  refine .inr ⟨h.1, ?_⟩
  obtain ⟨_, (rfl | ⟨b, rfl⟩ | ⟨i, rfl⟩) | ⟨a, o, rfl, ha, ⟨xs, rfl⟩ | ⟨xs, rfl⟩ | ⟨kvs, rfl⟩⟩⟩ := h
  · exact ⟨_, .base .non, kit_ty (by decide +kernel)⟩
  · exact ⟨_, .base (.bl b), kit_ty (by decide +kernel)⟩
  · exact ⟨_, .base (.int i), kit_ty (by decide +kernel)⟩
  · exact ⟨_, .base (.lst ha), kit_ty (by decide +kernel)⟩
  · exact ⟨_, .base (.tup ha), kit_ty (by decide +kernel)⟩
  · exact ⟨_, .base (.dK ha), kit_ty (by decide +kernel)⟩
/-! ### repr of a tuple of texts -/
/-! ### what is heard of words put together -/
theorem joinL_len : ∀ ps : List (List Nat), (joinL [32] ps).length ≤ (ps.map (·.length)).sum + ps.length
  | [] => by simp [joinL]
  | [p] => by simp [joinL]
  | p :: q :: r => by
    have ih := joinL_len (q :: r)
    show (p ++ ([32] ++ joinL [32] (q :: r))).length ≤ _
    simp only [List.length_append, List.length_cons, List.length_nil, List.map_cons, List.sum_cons] at ih ⊢
    omega
theorem join_len (ps : List Str) : (Txt.join blank ps).length ≤ (ps.map (·.length)).sum + ps.length := by
  rw [len_tl, join_eq, tl_join, tl_blank]
  have h := joinL_len (ps.map tl)
  rw [List.map_map, List.length_map] at h
  have e : (ps.map ((fun x => x.length) ∘ tl)) = ps.map (·.length) := List.map_congr_left fun y _ => (len_tl y).symm
  rw [e] at h
  exact h
end Qh
set_option Elab.async false
set_option linter.all false
set_option maxRecDepth 100000
set_option maxHeartbeats 4000000
namespace K08
open PySem PySem.Spec PyProof.Rows L2 TL Qh
abbrev sSide : Stmt := top 15
abbrev sRuleOf : Stmt := top 16
def sideS (ts : List Str) : Bool := (decide ((1 : Int) ≤ (ts.length : Int)) && decide ((ts.length : Int) ≤ 4)) && ts.all wordS
def spSide (K : PySem.W.Frag) : Sp := fun vs G Q _ => ∃ (a : Addr) (ts : List Str), vs = [.ref a] ∧ SqT K G a (ts.map V.str) ∧ (∀ y ∈ ts, y.length ≤ 1000000) ∧ ts.length ≤ 1000001 ∧ ∀ G', Same G G' → Q (.bl (sideS ts)) G'
theorem seqT_same {K : PySem.W.Frag} {G G' : Hp} {a : Addr} {xs : List V} (s : Same G G') (h : SqT K G a xs) : SqT K G' a xs := by
  rcases h with (h | ⟨o, h⟩) | h
  · exact .inl (.inl (s _ _ h))
  · exact .inl (.inr ⟨o, s _ _ h⟩)
  · exact .inr h
section
variable {P : Program} {w : World} {K : PySem.W.Frag} {mg : Str → Option Value} {base : Heap}
theorem scSide : FnScope ["words", "word"] ["words"] (defScope sSide) := ⟨rfl, rfl, rfl, by decide +kernel, rfl, by decide +kernel, by decide +kernel⟩
theorem ok_side (D : DefIn K mg "is_side" sSide) (B : Blt mg) (hM : ∃ t, mg "MOST_SIDE_WORDS" = some (.int 4 t)) (F_is_word : Ok P w K mg base "is_word" (defArgs sIsWord) ["value"] 2 (spIsWord K)) :
    Ok P w K mg base "is_side" (defArgs sSide) ["words"] 3 (spSide K) := by
  obtain ⟨tM, hM⟩ := hM
  refine D.ok scSide (fun vs G Q E h => ?_) (fun _ _ _ _ _ _ us hl => match us, hl with | [_], _ => rfl) (fun f cdv A out t G vs Q E hr h => ?_)
  · obtain ⟨a, ts, rfl, _⟩ := h
    rfl
  · obtain ⟨a, ts, rfl, hS, hy, hn, k⟩ := h
    refine ⟨_, (pss_one (ps_ret (pe_and (pe_chain op_le op_le pe_int (pe_callB call_len (by rfl) B.n_len bt_len (pa_cons (pv 0) pa_nil)) (pe_glob (v := .int 4) rfl hM ⟨_, rfl⟩)) (pe_one (pe_callB (cr_all rfl) (by rfl) B.n_all bt_all (pa_cons (pe_lc (own := [("word", 1)]) (tt := tYes) rfl scSide.nd (pi_tup (pv 0)) (blkOk_by (N := ["words", "word"]) (sc := defScope sSide) (by decide +kernel)) (fun _ _ _ _ _ => pg_name (i := 1) scSide.nd rfl (by first | exact Or.inl rfl | exact Or.inr rfl)) (fun _ _ _ _ _ => pts_nil) (fun _ _ _ _ _ => (pe_own F_is_word (hr.mono (by decide)) takes0 (pa_cons (pv 1) pa_nil)))) pa_nil)))))), ?_⟩
    refine ⟨_, rfl, .ref a, _, rfl, .inr ⟨_, hS, rfl⟩, ?_⟩
    rw [List.length_map]
    refine ⟨_, _, rfl, rfl, _, rfl, ?_⟩
    refine ite2 (fun h1 => ?_) (fun h1 => ?_)
    · refine ⟨_, _, rfl, rfl, _, rfl, ?_⟩
      refine ite2 (fun h2 => ?_) (fun h2 => ?_)
      · refine ⟨_, rfl, a, rfl, ⟨_, hS⟩, fun D hD => ?_⟩
        refine lc_tup (fun i G' => Same G G' ∧ G' D = some (.lst ((ts.take i).map fun y => V.bl (wordS y)))) ⟨Same.new hD, by rw [upd_same]; rfl⟩ (fun i G' _ ⟨sm, _⟩ => seqT_same sm hS) ?_ ?_
        · rintro i v G1 hi ⟨sm, hl⟩
          obtain ⟨y, hyi, rfl⟩ := map_at hi
          have hmem := List.mem_of_getElem? hyi
          refine ⟨rfl, ?_⟩
          refine ⟨_, rfl, .str y, rfl, .inl ⟨y, rfl, hy y hmem⟩, fun G2 sm2 => ?_⟩
          refine ⟨_, sm2 _ _ hl, ?_, Same.fresh (sm.trans sm2) hD, ?_⟩
          · rw [List.length_map, List.length_take]
            exact Nat.lt_of_le_of_lt (show _ ≤ 1000001 by omega) (by decide)
          · rw [upd_same, take_get hyi, List.map_append]
            rfl
        · rintro G1 ⟨sm, hl⟩
          rw [List.length_map, List.take_length] at hl
          have eb : ts.map (fun y => V.bl (wordS y)) = (ts.map wordS).map V.bl := by
            rw [List.map_map]
            rfl
          rw [eb] at hl
          refine ⟨D, ts.map wordS, rfl, SqL.of hl, ?_⟩
          have e : (ts.map wordS).all id = sideS ts := by
            unfold sideS
            rw [h1, h2, List.all_map]
            rfl
          rw [e]
          exact k G1 sm
      · have e : sideS ts = false := by
          unfold sideS
          rw [Bool.eq_false_iff.mpr h2, Bool.and_false, Bool.false_and]
        have h := k G (Same.refl G)
        rw [e] at h
        exact h
    · have e : sideS ts = false := by
        unfold sideS
        rw [Bool.eq_false_iff.mpr h1, Bool.false_and, Bool.false_and]
      have h := k G (Same.refl G)
      rw [e] at h
      exact ⟨_, rfl, iteF h⟩
end
end K08
set_option Elab.async false
set_option linter.all false
set_option maxRecDepth 100000
set_option maxHeartbeats 4000000
namespace K08
open PySem PySem.Spec PyProof.Rows L2 TL Qh
def eqs : Str := Str.ofString " = "
def sidesOf (x : Str) : List (List Str) := (Txt.split x eqs).map partsOf
def ruleS (x : Str) : Option (List (List Str)) := if ((decide ((2 : Int) ≤ ((sidesOf x).length : Int)) && decide (((sidesOf x).length : Int) ≤ 4)) && (sidesOf x).all sideS) = true then some (sidesOf x) else none
def ruleV (v : V) : Option (List (List Str)) := match v with
  | .str x => ruleS x
  | _ => none
theorem ruleV_other {v : V} (h : ∀ x, v ≠ .str x) : ruleV v = none := by
  cases v with
  | str x => exact absurd rfl (h x)
  | _ => rfl
def rSpl : V → List V → Hp → VK → Prop := fun x xs H Q => ∃ a b, x = V.str a ∧ xs = [V.str b] ∧ (b.length == 0) = false ∧ a.length + 2 ≤ sizeLine ∧ rNewStrs (Txt.split a b) H Q
/-- tuples of these texts -/
inductive SidesAt (G : Hp) : List Addr → List (List Str) → Prop
  | nil : SidesAt G [] []
  | cons {a : Addr} {ts : List Str} {as : List Addr} {r : List (List Str)} : G a = some (.tup (ts.map V.str)) → SidesAt G as r → SidesAt G (a :: as) (ts :: r)
theorem SidesAt.same {G G' : Hp} (s : Same G G') : ∀ {as : List Addr} {r : List (List Str)}, SidesAt G as r → SidesAt G' as r
  | _, _, .nil => .nil
  | _, _, .cons h t => .cons (s _ _ h) (SidesAt.same s t)
theorem SidesAt.snoc {G : Hp} {a : Addr} {ts : List Str} (h : G a = some (.tup (ts.map V.str))) : ∀ {as : List Addr} {r : List (List Str)}, SidesAt G as r → SidesAt G (as ++ [a]) (r ++ [ts])
  | _, _, .nil => .cons h .nil
  | _, _, .cons k t => .cons k (SidesAt.snoc h t)
theorem SidesAt.len {G : Hp} : ∀ {as : List Addr} {r : List (List Str)}, SidesAt G as r → as.length = r.length
  | _, _, .nil => rfl
  | _, _, .cons _ t => by rw [List.length_cons, List.length_cons, SidesAt.len t]
theorem SidesAt.at {G : Hp} : ∀ {as : List Addr} {r : List (List Str)} {i : Nat} {a : Addr}, SidesAt G as r → as[i]? = some a → ∃ ts, r[i]? = some ts ∧ G a = some (.tup (ts.map V.str))
  | _, _, 0, a, .cons h t, e => by
    cases e
    exact ⟨_, rfl, h⟩
  | _, _, i + 1, a, .cons h t, e => by
    have q := SidesAt.at (i := i) t e
    exact q
theorem SidesAt.put {G : Hp} {D : Addr} {l : List V} {o : HO} (hD : G D = some (.lst l)) : ∀ {as : List Addr} {r : List (List Str)}, SidesAt G as r → SidesAt (upd G D o) as r
  | _, _, .nil => .nil
  | _, _, .cons h t => .cons (by rw [upd_ne (ne_of h hD (fun z => nomatch z))]; exact h) (SidesAt.put hD t)
/-- the tuple of the sides of a rule -/
def RuleAt (G : Hp) (q : Addr) (r : List (List Str)) : Prop := ∃ as, G q = some (.tup (as.map V.ref)) ∧ SidesAt G as r
theorem RuleAt.same {G G' : Hp} {q : Addr} {r : List (List Str)} (h : RuleAt G q r) (s : Same G G') : RuleAt G' q r := by
  obtain ⟨as, h1, h2⟩ := h
  exact ⟨as, s _ _ h1, h2.same s⟩
def spRuleOf (K : PySem.W.Frag) : Sp := fun vs G Q _ => ∃ (v : V), vs = [v] ∧ Known K G v ∧ (ruleV v = none → ∀ G', Same G G' → Q .non G') ∧ ∀ r, ruleV v = some r → ∀ q G', Same G G' → RuleAt G' q r → Q (.ref q) G'
theorem eqs_parts {x p : Str} (h : p ∈ Txt.split x eqs) : p.length ≤ x.length ∧ (Txt.split x eqs).length ≤ x.length + 1 := by
  have te : tl eqs = [32, 61, 32] := by decide +kernel
  have ke : eqs.cps.all (· < 256) = true := by decide +kernel
  have hs := split_spl x eqs (by rw [te]; simp) (kind_ok ke)
  have hl := spl_len (tl eqs) (tl x) 0 []
  rw [← hs] at hl
  refine ⟨?_, ?_⟩
  · have := hl.1 (tl p) (List.mem_map_of_mem h)
    rw [len_tl, len_tl]
    simpa using this
  · have := hl.2
    rw [List.length_map] at this
    rw [len_tl]
    exact this
section
variable {P : Program} {w : World} {K : PySem.W.Frag} {mg : Str → Option Value} {base : Heap}
theorem scRuleOf : FnScope ["value", "sides", "side"] ["value"] (defScope sRuleOf) := ⟨rfl, rfl, rfl, by decide +kernel, rfl, by decide +kernel, by decide +kernel⟩
theorem ok_ruleOf (D : DefIn K mg "rule_of" sRuleOf) (B : Blt mg) (hL : ∃ t, mg "LEAST_SIDES" = some (.int 2 t)) (hM : ∃ t, mg "MOST_SIDES" = some (.int 4 t)) (F_is_side : Ok P w K mg base "is_side" (defArgs sSide) ["words"] 3 (spSide K)) :
    Ok P w K mg base "rule_of" (defArgs sRuleOf) ["value"] 4 (spRuleOf K) := by
  obtain ⟨tL, hL⟩ := hL
  obtain ⟨tM, hM⟩ := hM
  refine D.ok scRuleOf (fun vs G Q E h => ?_) (fun _ _ _ _ _ _ us hl => match us, hl with | [_], _ => rfl) (fun f cdv A out t G vs Q E hr h => ?_)
  · obtain ⟨v, rfl, _⟩ := h
    rfl
  · obtain ⟨v, rfl, hv, k1, k2⟩ := h
    refine ⟨_, (pss_cons (ps_if (pt_not (pt_val (pe_callB call_isi (by rfl) B.n_isinstance bt_isinstance (pa_cons (pv 0) (pa_cons (pe_bltn (v := .ty "str") (by rfl) B.n_str bt_str rfl) pa_nil))))) (pss_one (ps_ret pe_non)) pss_nil)
      (pss_cons (ps_set (i := 1) scRuleOf.nd rfl (by first | exact Or.inl rfl | exact Or.inr rfl) (pe_callTy cn_tuple (by rfl) B.n_tuple bt_tuple (pa_cons (pe_lc (own := [("side", 2)]) (tt := tYes) (te := tCB (nTuple K) (tCons (tBM K "str" rSpl (tVar 2) (tCons (tC (.str blank)) tNil)) tNil)) rfl scRuleOf.nd (pi_list (pe_bm PySem.F.plainAttrs_str PySem.F.slot_str_split PySem.F.type_str_split mt_split (pv 0) (pa_cons pe_str pa_nil))) (blkOk_by (N := ["value", "sides", "side"]) (sc := defScope sRuleOf) (by decide +kernel)) (fun _ _ _ _ _ => pg_name (i := 2) scRuleOf.nd rfl (by first | exact Or.inl rfl | exact Or.inr rfl)) (fun _ _ _ _ _ => pts_nil) (fun _ _ _ _ _ => (pe_callTy cn_tuple (by rfl) B.n_tuple bt_tuple (pa_cons (pe_bm PySem.F.plainAttrs_str PySem.F.slot_str_split PySem.F.type_str_split mt_split (pv 2) (pa_cons pe_str pa_nil)) pa_nil)))) pa_nil)))
      (pss_cons (ps_if (PW.pt (pw_or (pt_not (pt_chain op_le op_le (pe_glob (v := .int 2) rfl hL ⟨_, rfl⟩) (pe_callB call_len (by rfl) B.n_len bt_len (pa_cons (pv 1) pa_nil)) (pe_glob (v := .int 4) rfl hM ⟨_, rfl⟩))) (pw_or1 (pt_not (pt_val (pe_callB (cr_all rfl) (by rfl) B.n_all bt_all (pa_cons (pe_lc (own := [("side", 2)]) (tt := tYes) rfl scRuleOf.nd (pi_tup (pv 1)) (blkOk_by (N := ["value", "sides", "side"]) (sc := defScope sRuleOf) (by decide +kernel)) (fun _ _ _ _ _ => pg_name (i := 2) scRuleOf.nd rfl (by first | exact Or.inl rfl | exact Or.inr rfl)) (fun _ _ _ _ _ => pts_nil) (fun _ _ _ _ _ => (pe_own F_is_side (hr.mono (by decide)) takes0 (pa_cons (pv 2) pa_nil)))) pa_nil))))))) (pss_one (ps_ret pe_non)) pss_nil)
      (pss_one (ps_ret (pv 1)))))), ?_⟩
    rcases hv with ⟨x, rfl, hx⟩ | ⟨hno, ty, hty, hk⟩
    · refine ⟨_, rfl, _, _, _, _, _, rfl, .ty _, .base (.str x), kit_ty (r := true) (by decide +kernel), _, rfl, ?_⟩
      refine iteF ?_
      refine ⟨_, rfl, rfl, x, eqs, rfl, rfl, by decide +kernel, by have := sizeLine_eq; omega, fun q hq => ?_⟩
      have qn : ∀ {D : Addr}, (upd G q (.lst ((Txt.split x eqs).map V.str))) D = none → q ≠ D := fun hD e => by
        rw [← e, upd_same] at hD
        cases hD
      refine ⟨q, rfl, ⟨_, SqL.of upd_same⟩, fun D hD => ?_⟩
      have hDG : G D = none := (Same.new hq).free hD
      have hqD := qn hD
      refine lc_list (fun i G' => ∃ as : List Addr, G' D = some (.lst (as.map V.ref)) ∧ as.length = i ∧ SidesAt G' as (((Txt.split x eqs).take i).map partsOf) ∧ Same G G' ∧ G' q = some (.lst ((Txt.split x eqs).map V.str)))
        ⟨[], upd_same, rfl, .nil, Same.fresh (Same.new hq) hDG, by rw [upd_ne hqD, upd_same]⟩ (fun i G' _ ⟨_, _, _, _, _, h⟩ => SqL.of h) ?_ ?_
      · rintro i v G1 hi ⟨as, hl, hn, hs, sm, hq1⟩
        obtain ⟨y, hyi, rfl⟩ := map_at hi
        obtain ⟨hyl, hcount⟩ := eqs_parts (List.mem_of_getElem? hyi)
        have hil := (List.getElem?_eq_some_iff.mp hyi).1
        refine ⟨rfl, ?_⟩
        refine ⟨_, rfl, rfl, y, blank, rfl, rfl, by decide +kernel, by have := sizeLine_eq; omega, fun r hr => ?_⟩
        refine ⟨r, _, rfl, SqL.of upd_same, fun u G2 hu su lu => ?_⟩
        have smX := (Same.new hr).trans su
        have hl2 := smX _ _ hl
        refine ⟨_, hl2, by rw [List.length_map, hn]; exact Nat.lt_of_le_of_lt (show i ≤ 1000001 by omega) (by decide), as ++ [u], ?_, by simp [hn], ?_, Same.fresh (sm.trans smX) hDG, ?_⟩
        · rw [upd_same, List.map_append]
          rfl
        · rw [take_get hyi, List.map_append]
          exact SidesAt.put hl2 (SidesAt.snoc lu (hs.same smX))
        · rw [upd_ne hqD]
          exact smX _ _ hq1
      · rintro G1 ⟨as, hl, hn, hs, sm, hq1⟩
        rw [List.length_map] at hn
        rw [List.length_map, List.take_length] at hs
        have hs : SidesAt G1 as (sidesOf x) := hs
        refine ⟨D, _, rfl, SqL.of hl, fun u G2 hu su lu => ?_⟩
        have hs2 := hs.same su
        have sm2 := sm.trans su
        have hlen : as.length = (sidesOf x).length := hs.len
        have rule : RuleAt G2 u (sidesOf x) := ⟨as, lu, hs2⟩
        refine ⟨_, rfl, .ref u, _, rfl, .inr ⟨_, SqT.of lu, rfl⟩, _, _, rfl, rfl, _, rfl, ?_⟩
        rw [List.length_map, hlen]
        refine ite2 (fun h1 => ?_) (fun h1 => ?_)
        · refine ⟨_, _, rfl, rfl, _, rfl, ?_⟩
          refine ite2 (fun h2 => ?_) (fun h2 => ?_)
          · have h2 : decide (((sidesOf x).length : Int) ≤ 4) = false := by simpa using h2
            have e : ruleV (.str x) = none := by
              show ruleS x = none
              unfold ruleS
              rw [h2, Bool.and_false, Bool.false_and]
              rfl
            exact iteT (k1 e G2 sm2)
          · have h2 : decide (((sidesOf x).length : Int) ≤ 4) = true := by simpa using h2
            refine ⟨_, rfl, u, rfl, ⟨_, SqT.of lu⟩, fun D2 hD2 => ?_⟩
            have hlen4 : as.length ≤ 4 := by
              have := of_decide_eq_true h2
              omega
            refine lc_tup (fun i G' => Same G2 G' ∧ G' D2 = some (.lst (((sidesOf x).take i).map fun ts => V.bl (sideS ts)))) ⟨Same.new hD2, upd_same⟩ (fun i G' _ ⟨s3, _⟩ => SqT.of (s3 _ _ lu)) ?_ ?_
            · rintro i v G3 hi ⟨s3, l3⟩
              obtain ⟨sa, hsi, rfl⟩ := map_at hi
              obtain ⟨ts, hti, hsa⟩ := hs2.at hsi
              obtain ⟨y, hyi, ey⟩ := map_at (l := Txt.split x eqs) (f := partsOf) hti
              have hyl := (eqs_parts (List.mem_of_getElem? hyi)).1
              subst ey
              refine ⟨rfl, ?_⟩
              refine ⟨_, rfl, sa, _, rfl, SqT.of (s3 _ _ hsa), fun z hz => Nat.le_trans (parts_len hz) (by omega), by have := parts_count y; omega, fun G4 s4 => ?_⟩
              have hi4 := (List.getElem?_eq_some_iff.mp hsi).1
              refine ⟨_, s4 _ _ l3, by rw [List.length_map, List.length_take]; exact big_line' (by omega), Same.fresh (s3.trans s4) hD2, ?_⟩
              rw [upd_same, take_get hti, List.map_append]
              rfl
            · rintro G3 ⟨s3, l3⟩
              rw [List.length_map, hlen, List.take_length] at l3
              have eb : (sidesOf x).map (fun ts => V.bl (sideS ts)) = ((sidesOf x).map sideS).map V.bl := by
                rw [List.map_map]
                rfl
              rw [eb] at l3
              refine ⟨D2, (sidesOf x).map sideS, rfl, SqL.of l3, _, rfl, ?_⟩
              have ea : ((sidesOf x).map sideS).all id = (sidesOf x).all sideS := by
                rw [List.all_map]
                rfl
              rw [ea]
              cases ha : (sidesOf x).all sideS with
              | true =>
                have e : ruleV (.str x) = some (sidesOf x) := by
                  show ruleS x = _
                  unfold ruleS
                  rw [h1, h2, ha]
                  rfl
                exact ⟨_, rfl, k2 _ e u G3 (sm2.trans s3) (rule.same s3)⟩
              | false =>
                have e : ruleV (.str x) = none := by
                  show ruleS x = none
                  unfold ruleS
                  rw [ha, Bool.and_false]
                  rfl
                exact k1 e G3 (sm2.trans s3)
        · have h1 : decide ((2 : Int) ≤ ((sidesOf x).length : Int)) = false := by simpa using h1
          have e : ruleV (.str x) = none := by
            show ruleS x = none
            unfold ruleS
            rw [h1, Bool.false_and, Bool.false_and]
            rfl
          exact ⟨_, rfl, iteT (k1 e G2 sm2)⟩
    · refine ⟨_, rfl, _, _, _, _, _, rfl, .ty _, hty, hk, _, rfl, ?_⟩
      refine iteT ?_
      exact k1 (ruleV_other hno) G (Same.refl G)
end
end K08
set_option Elab.async false
set_option linter.all false
set_option maxRecDepth 100000
set_option maxHeartbeats 4000000
namespace K08
open PySem PySem.Spec PyProof.Rows L2 TL Qh
abbrev sTextOf : Stmt := top 7
abbrev sRuleText : Stmt := top 17
def ruleText (r : List (List Str)) : Str := Txt.join eqs (r.map (Txt.join blank))
/-- how long all the texts of a rule are, with room for what stands between them -/
def ruleSize (r : List (List Str)) : Nat := (r.map fun ts => (ts.map (·.length)).sum + ts.length + 3).sum
def spRuleText : Sp := fun vs G Q _ => ∃ (a : Addr) (r : List (List Str)), vs = [.ref a] ∧ RuleAt G a r ∧ ruleSize r ≤ 1000000 ∧ ∀ G', Same G G' → Q (.str (ruleText r)) G'
theorem join_le (ps : List Str) : (Txt.join blank ps).length ≤ (ps.map (·.length)).sum + ps.length := join_len ps
theorem sum_mem {l : List Nat} {n : Nat} (h : n ∈ l) : n ≤ l.sum := by
  induction l with
  | nil => cases h
  | cons a r ih =>
    simp only [List.sum_cons]
    rcases List.mem_cons.mp h with rfl | h
    · omega
    · have := ih h
      omega
theorem size_side {r : List (List Str)} {ts : List Str} (h : ts ∈ r) : (ts.map (·.length)).sum + ts.length + 3 ≤ ruleSize r := sum_mem (List.mem_map.mpr ⟨ts, h, rfl⟩)
theorem size_text : ∀ r : List (List Str), ((r.map (Txt.join blank)).map (·.length)).sum + 3 * r.length ≤ ruleSize r
  | [] => Nat.le_refl _
  | ts :: r => by
    have h1 := size_text r
    have h2 := join_le ts
    unfold ruleSize at h1 ⊢
    simp only [List.map_cons, List.sum_cons, List.length_cons]
    omega
theorem size_len : ∀ r : List (List Str), 3 * r.length ≤ ruleSize r
  | [] => Nat.le_refl _
  | ts :: r => by
    have h1 := size_len r
    unfold ruleSize at h1 ⊢
    simp only [List.map_cons, List.sum_cons, List.length_cons]
    omega
section
variable {P : Program} {w : World} {K : PySem.W.Frag} {mg : Str → Option Value} {base : Heap}
theorem scTextOf : FnScope ["words"] ["words"] (defScope sTextOf) := ⟨rfl, rfl, rfl, by decide +kernel, rfl, by decide +kernel, by decide +kernel⟩
theorem ok_textOf (D : DefIn K mg "text_of" sTextOf) : Ok P w K mg base "text_of" (defArgs sTextOf) ["words"] 1 (spTextOf K) := by
  refine D.ok scTextOf (fun vs G Q E h => ?_) (fun _ _ _ _ _ _ us hl => match us, hl with | [_], _ => rfl) (fun f cdv A out t G vs Q E hr h => ?_)
  · obtain ⟨a, ys, rfl, _⟩ := h
    rfl
  · obtain ⟨a, ys, rfl, hs, hz, q⟩ := h
    refine ⟨_, pss_one (ps_ret (pe_bm PySem.F.plainAttrs_str PySem.F.slot_str_join PySem.F.type_str_join mt_join pe_str (pa_cons (pv 0) pa_nil))), ?_⟩
    refine ⟨rfl, _, rfl, blank, a, ys, rfl, rfl, hs, ?_, q⟩
    have : blank.length = 1 := by decide +kernel
    rw [this]
    omega
theorem scRuleText : FnScope ["rule", "side"] ["rule"] (defScope sRuleText) := ⟨rfl, rfl, rfl, by decide +kernel, rfl, by decide +kernel, by decide +kernel⟩
theorem ok_ruleText (D : DefIn K mg "rule_text" sRuleText) (F_text_of : Ok P w K mg base "text_of" (defArgs sTextOf) ["words"] 1 (spTextOf K)) : Ok P w K mg base "rule_text" (defArgs sRuleText) ["rule"] 2 spRuleText := by
  refine D.ok scRuleText (fun vs G Q E h => ?_) (fun _ _ _ _ _ _ us hl => match us, hl with | [_], _ => rfl) (fun f cdv A out t G vs Q E hr h => ?_)
  · obtain ⟨a, r, rfl, _⟩ := h
    rfl
  · obtain ⟨a, r, rfl, ⟨as, la, hs⟩, hz, k⟩ := h
    refine ⟨_, pss_one (ps_ret (pe_bm PySem.F.plainAttrs_str PySem.F.slot_str_join PySem.F.type_str_join mt_join pe_str (pa_cons (pe_lc (own := [("side", 1)]) (tt := tYes) rfl scRuleText.nd (pi_tup (pv 0)) (blkOk_by (N := ["rule", "side"]) (sc := defScope sRuleText) (by decide +kernel)) (fun _ _ _ _ _ => pg_name (i := 1) scRuleText.nd rfl (by first | exact Or.inl rfl | exact Or.inr rfl)) (fun _ _ _ _ _ => pts_nil) (fun _ _ _ _ _ => (pe_own F_text_of (hr.mono (by decide)) takes0 (pa_cons (pv 1) pa_nil)))) pa_nil))), ?_⟩
    have hlen := hs.len
    have hsl := size_len r
    refine ⟨rfl, _, rfl, a, rfl, ⟨_, SqT.of la⟩, fun D hD => ?_⟩
    refine lc_tup (fun i G' => Same G G' ∧ G' D = some (.lst (((r.map (Txt.join blank)).take i).map V.str))) ⟨Same.new hD, upd_same⟩ (fun i G' _ ⟨sm, _⟩ => SqT.of (sm _ _ la)) ?_ ?_
    · rintro i v G1 hi ⟨sm, hl⟩
      obtain ⟨sa, hsi, rfl⟩ := map_at hi
      obtain ⟨ts, hti, hsa⟩ := hs.at hsi
      have hsz := size_side (List.mem_of_getElem? hti)
      have hi4 := (List.getElem?_eq_some_iff.mp hsi).1
      refine ⟨rfl, ?_⟩
      refine ⟨_, rfl, sa, ts, rfl, .inr (SqT.of (sm _ _ hsa)), by omega, ?_⟩
      refine ⟨_, hl, by rw [List.length_map, List.length_take]; exact big_line' (by omega), Same.fresh sm hD, ?_⟩
      rw [upd_same, take_get (by rw [List.getElem?_map, hti]; rfl), List.map_append]
      rfl
    · rintro G1 ⟨sm, hl⟩
      rw [List.length_map, hlen, List.take_of_length_le (by rw [List.length_map]; omega)] at hl
      have hst := size_text r
      refine ⟨eqs, D, r.map (Txt.join blank), rfl, rfl, .inl (SqL.of hl), ?_, k G1 sm⟩
      have : eqs.length = 3 := by decide +kernel
      rw [this, List.length_map]
      omega
end
end K08
set_option Elab.async false
set_option linter.all false
set_option maxRecDepth 100000
set_option maxHeartbeats 4000000
/-! Sets of texts: what stands in them, a text added, made of a row, sorted. -/
namespace Qs
open PySem PySem.Spec PyProof.Rows L2
def keyX (e : Int × Value) : Str := match e.2 with
  | .str x _ => x
  | _ => Str.empty
def GoodX (w : World) (e : Int × Value) : Prop := ∃ x tk, e.2 = Value.str x tk ∧ e.1 = hashStr w x
/-- the set at a has just the texts ks -/
def SetX (w : World) (h : Heap) (a : Addr) (ks : List Str) : Prop := ∃ o es ep t, h.get? a = some o ∧ o.ExactSet ∧ o.data = .set es ep t ∧ (∀ e ∈ es.toList, GoodX w e) ∧ (es.toList.map keyX).Perm ks ∧ ks.Nodup ∧
  es.size < scanBound ∧ t.fits es.size = true ∧ Ris t.place.toList ∧ (w.params.followText "set-order" = true ∨ t.led = true)
section
variable {P : Program} {w : World} {h h' : Heap} {a : Addr} {ks : List Str}
theorem SetX.at (R : SetX w h a ks) (k : ∀ o, h.get? a = some o → h'.get? a = some o) : SetX w h' a ks := by
  obtain ⟨o, es, ep, t, hob, more⟩ := R
  exact ⟨o, es, ep, t, k o hob, more⟩
end
section
variable {P : Program} {w : World} {A : Around} {E : Value → Shared → Prop} {s : Shared} {a : Addr} {ks : List Str}
/-- what the set has behind x -/
def more (ks : List Str) (x : Str) : List Str := if x ∈ ks then ks else x :: ks
end
end Qs
set_option Elab.async false
set_option linter.all false
set_option maxRecDepth 100000
set_option maxHeartbeats 4000000
/-! set(a list or tuple of texts). -/
namespace Qs
open PySem PySem.Spec PyProof.Rows L2
def metOf (l : List Str) (i : Nat) : List Str := (l.take i).foldl more []
section
variable {prog : Program} {w : World} {A : Around} {R : Result → Shared → Prop} {I : Addr} {fp wr : List Addr} {G : Array GenState → Array GenState → Prop} {n : Nat} {P : Nat → Value → Prop} {St : Nat → Shared → Prop}
end
end Qs
set_option Elab.async false
set_option linter.all false
set_option maxRecDepth 100000
set_option maxHeartbeats 6400000
/-! The call of set with a list or a tuple of texts. -/
namespace PySem
section
variable {prog : Program} {w : World} {A : Around} {E : Value → Shared → Prop} {s : Shared}
end
end PySem
set_option Elab.async false
set_option linter.all false
set_option maxRecDepth 100000
set_option maxHeartbeats 4000000
/-! sorted(a set of texts); the rules. -/
namespace Qs
open PySem PySem.Spec PyProof.Rows L2
section
variable {P : Program} {w : World} {A : Around} {E : Value → Shared → Prop} {s : Shared} {a : Addr} {ks : List Str}
end
section
variable {X : Cx}
end
end Qs
set_option Elab.async false
set_option linter.all false
set_option maxRecDepth 100000
set_option maxHeartbeats 4000000
/-! Just one row of texts is sorted; ascending(values). -/
namespace Qs
open PySem PySem.Spec PyProof.Rows L2
/-- ss is the ascending row of the texts ts -/
def Asc (ts ss : List Str) : Prop := ss.Perm (metOf ts ts.length) ∧ sortedS ss = true
/-- ascending(values): the tuple -/
def spAsc (K : PySem.W.Frag) : Sp := fun vs G Q _ => ∃ (l : Addr) (ts : List Str), vs = [.ref l] ∧ (SqL K G l (ts.map V.str) ∨ SqT K G l (ts.map V.str)) ∧ ts.length < 64 ∧
  ∀ (ss : List Str) p G', Asc ts ss → G p = none → Same G G' → G' p = some (.tup (ss.map V.str)) → Q (.ref p) G'
end Qs
set_option Elab.async false
set_option linter.all false
set_option maxRecDepth 100000
set_option maxHeartbeats 4000000
/-! Own errors as plain values: any built-in base, values by position or by name. -/
namespace Qv
open PySem PySem.HandSPX
section
variable {M : Model} {A : Around} {E : Value → Shared → Prop} {h : Heap} {g : Array GenState} {d : Drawn} {t : Nat} {os : OsState} {prog : Program} {w : World} {R : Result → Shared → Prop}
variable {nm q : Str} {C N : Addr} {bs bm bmB : List Value} {hdct : Bool} {sn : List Str} {sub : List Value} {ab : Bool} {col : Option Bool} {dd : Option Addr} {k0 k1 k2 k3 k5 : Option Value} {B newId initId : String} {rest : List Value} {kw : List (Str × Value)}

/-- what new asks of the bases -/
def basesOk (B : String) (bm : List Value) : Bool := bm.contains (.type B) && (!bm.contains (.type "AttributeError") && !bm.contains (.type "NameError"))
end
section
open PySem.W Builtin Builtin.ObjectAttr
variable {prog : Program} {w : World} {A : Around} {R : Result → Shared → Prop} {K : W.Frag} {hp : Heap} {g : Array GenState} {d : Drawn} {t : Nat} {os : OsState} {name : Str} {tk : Tok} {v : Value} {x C : Addr} {fv : Array Value} {cd : ClassData} {B : String} {bmB : List Value}
end
end Qv
set_option Elab.async false
set_option linter.all false
set_option maxRecDepth 100000
/-! KeyError's own store of a field. -/
namespace Qv
open PySem PySem.F
end Qv
set_option Elab.async false
set_option linter.all false
set_option maxRecDepth 100000
set_option maxHeartbeats 4000000
/-! Own errors as plain values, in the layer of readings. -/
namespace Qv
open PySem PySem.Spec PyProof.Rows L2 Qh
/-- what the top says of an own error class, whatever its built-in base -/
structure OexG (K : PySem.W.Frag) (C : Addr) : Prop where
  cls : ∃ (B newId initId Bs : String) (bmN bmB : List Value) (nm q : Str) (N : Addr) (bs bm : List Value) (sn : List Str) (sub : List Value) (ab : Bool) (col : Option Bool) (dd : Option Addr) (k0 k1 k2 k3 k5 : Option Value),
    K.lookup C = some (excClassObj nm q C N bs bm true sn sub ab col dd k0 k1 k2 k3 k5 newId) ∧ basesOk B bm = true ∧ ExcBaseFacts B newId initId bmN ∧ StoreFacts Bs bmB "object.__setattr__" "object"  ∧ PySem.W.excOver K C bmB = true
  sa : PySem.W.findIn K (.ref C) "__setattr__" = some (some (.builtin "object.__setattr__"))
  kC : PySem.W.keepIn K (.ref C) = true
/-- the error of the class C at a, with these fields -/
def ErrAt (G : Hp) (a C : Addr) (fs : List (Str × V)) : Prop := ∃ d, G a = some (exo a C (some d)) ∧ G d = some (exd d fs)
theorem ErrAt.same {G G' : Hp} {a C : Addr} {fs : List (Str × V)} (e : ErrAt G a C fs) (s : Same G G') : ErrAt G' a C fs := by
  obtain ⟨d, h1, h2⟩ := e
  exact ⟨d, s _ _ h1, s _ _ h2⟩
/-- C.__init__(self, f, ..): self.f = f, .. -/
def spErrG (C : Addr) (fields : List Str) : Sp := fun vs G Q _ => ∃ (a : Addr) (ws : List V), vs = .ref a :: ws ∧ ws.length = fields.length ∧ G a = some (exo a C none) ∧
  ∀ d, G d = none → d ≠ a → Q .non (upd (upd G d (exd d (fields.zip ws).reverse)) a (exo a C (some d)))
section
variable {X : Cx} {pins : List (Addr × Obj)} {σ : L2.St} {H : Hp} {s : Shared} {a C dx : Addr} {f : Str} {y : V} {u : Value} {fs : List (Str × V)} {Q : Unit → Shared → Prop} {E : Value → Shared → Prop} {A : Around}
theorem OexG.data {K : PySem.W.Frag} {C : Addr} (T : OexG K C) : ∃ (B newId initId Bs : String) (bmN bmB : List Value) (nm q : Str) (N : Addr) (bs bm : List Value) (sn : List Str) (sub : List Value) (ab : Bool) (col : Option Bool) (dd : Option Addr) (k0 k1 k2 k3 k5 : Option Value) (cd : ClassData),
    K.lookup C = some (excClassObj nm q C N bs bm true sn sub ab col dd k0 k1 k2 k3 k5 newId) ∧ basesOk B bm = true ∧ ExcBaseFacts B newId initId bmN ∧ StoreFacts Bs bmB "object.__setattr__" "object" ∧ PySem.W.excOver K C bmB = true ∧ PySem.W.clsIn K C = some cd ∧ cd.hasDict = true := by
  obtain ⟨B, newId, initId, Bs, bmN, bmB, nm, q, N, bs, bm, sn, sub, ab, col, dd, k0, k1, k2, k3, k5, h1, h2, h3, h4, h5⟩ := T.cls
  exact ⟨B, newId, initId, Bs, bmN, bmB, nm, q, N, bs, bm, sn, sub, ab, col, dd, k0, k1, k2, k3, k5, { name := nm, bases := bs, mro := .ref C :: bm, ns := N, qualname := q, hasDict := true, slotNames := sn, subclasses := sub, abstract := ab, collection := col, hasDel := false },
    h1, h2, h3, h4, h5, by unfold PySem.W.clsIn; rw [h1] <;> rfl, rfl⟩
end
section
variable {X : Cx} {o e : Expr} {es : List Expr} {kws : List Keyword} {to te : TE} {ta : TA} {f x : Str} {p p' pos : Pos} {C : Addr} {fields : List Str}
end
end Qv
set_option Elab.async false
set_option linter.all false
set_option maxRecDepth 100000
set_option maxHeartbeats 4000000
/-! Own errors as plain values: made, read, told apart. -/
namespace Qv
open PySem PySem.Spec PyProof.Rows L2 Qh
/-- an own error class with this __init__ -/
structure ErrK (P : Program) (w : World) (K : PySem.W.Frag) (mg : Str → Option Value) (base : Heap) (x qn : Str) (pa : Arguments) (fields : List Str) (C : Addr) : Prop where
  g : mg x = some (.ref C)
  o : OexG K C
  xf : XfC K C
  ec : ExcC K C
  no : ∀ f ∈ fields, PySem.W.findIn K (.ref C) f = some none
  init : ∃ (fI : Addr) (body : List Stmt) (scope : Scope) (kV doc pm : Value) (an : Option Addr) (cdv ct : Value), PySem.W.findIn K (.ref C) "__init__" = some (some (.ref fI)) ∧ PySem.W.typeIn K (.ref fI) = some (.type "function") ∧
    (∀ us : List Value, us.length = fields.length + 1 → bindArgs (PySem.W.fnOf "__init__" qn pa body scope .none kV doc pm an cdv ct) ⟨us, []⟩ = pure ((("self" : Str) :: fields).zip us)) ∧
    FnOk P w K mg base (L2.CX P w) 1 fI (PySem.W.fnOf "__init__" qn pa body scope .none kV doc pm an cdv ct) (("self" : Str) :: fields) (spErrG C fields)
section
variable {X : Cx} {pins : List (Addr × Obj)} {σ : L2.St} {H1 : Hp} {s : Shared} {C fI : Addr} {fd : FuncData} {ps : List Str} {sp : Sp} {rest us : List Value} {kw : List (Str × Value)} {vs : List V} {Q : VK}
end
section
variable {X : Cx} {o e : Expr} {es : List Expr} {kws : List Keyword} {to te : TE} {ta : TA} {f x qn : Str} {pa : Arguments} {p pos : Pos} {C : Addr} {fields : List Str}
end
end Qv
set_option Elab.async false
set_option linter.all false
set_option maxRecDepth 100000
set_option maxHeartbeats 4000000
/-! Instances made where errors are wished for at the caller's slots; ascending(values). -/
namespace Qi
open PySem PySem.Spec PyProof.Rows L2 Qh
/-- C(e, ..), by a positional promise of its __init__ -/
def tMakeS (C : Addr) (sp : Sp) (E : L2.St → XK) (t : TA) : TE := fun σ H Q => t σ H fun vs H1 => ∀ x dx, H1 x = Option.none → H1 dx = Option.none → dx ≠ x →
  sp (V.ref x :: vs) (upd (upd H1 dx (.own x)) x (.ins C dx [])) (fun v H2 => v = .non ∧ Q (.ref x) H2) (E σ)
section
variable {X : Cx} {W : WX} {k : Nat} {f C : Addr} {sp : Sp} {x : Str} {e : Expr} {es : List Expr} {t : TA} {p pos : Pos}
theorem run_makeS {E : XK} {pins : List (Addr × Obj)} {σ : L2.St} {H : Hp} {s : Shared} {Q : VK} {us : List Value} {vs : List V} (M : Mk X.K C f) (F : FnR X.prog X.w X.K X.mg X.base (L2.CX X.prog X.w) k f sp) (hr : Room (k + 1) X.A)
    (hx : ∀ (H2 : Hp) (s2 : Shared) (er : Value) (s' : Shared), Inv X pins σ H2 s2 → L2.CX X.prog X.w X.stack H2 s2 E er s' → X.xe er s') (I : Inv X pins σ H s) (r : Vals vs us)
    (h : ∀ x dx, H x = Option.none → H dx = Option.none → dx ≠ x → sp (V.ref x :: vs) (upd (upd H dx (.own x)) x (.ins C dx [])) (fun v H2 => v = .non ∧ Q (.ref x) H2) E) :
    wpAny (model X.prog X.w) X.A (call (.ref C) us) (EP X pins σ Q) X.xe s := by
  have want := h (s.heap.objs.size + 1) s.heap.objs.size (I.hok.fresh (Nat.le_succ _)) (I.hok.fresh (Nat.le_refl _)) (Nat.ne_of_lt (Nat.lt_succ_self _))
  have J := Inv.made (C := C) I
  have rr : Vals (V.ref (s.heap.objs.size + 1) :: vs) (Value.ref (s.heap.objs.size + 1) :: us) := .cons rfl r
  refine wpAny_call (make_map (f := f) I.kIn M.makes M.init (beq_iff_eq.mp M.fn) (codeAny_mono (F _ X.stack _ _ (Value.ref (s.heap.objs.size + 1) :: us) _ _ E (hr.make C us []) (J.env0.make C us []) rr want) ?_))
  rintro (er | fl) s' hq
  · exact hx _ _ er s' J hq
  · cases fl with
    | next => exact hq.elim
    | brk => exact hq.elim
    | cont => exact hq.elim
    | ret u =>
      obtain ⟨v, H2, J2, rv, ev, q⟩ := J.after hq
      subst ev
      exact ⟨rv, .ref (s.heap.objs.size + 1), H2, J2, rfl, q⟩
theorem pe_makeS (M : Mk X.K C f) (F : FnR X.prog X.w X.K X.mg X.base (L2.CX X.prog X.w) k f sp) (hr : Room (k + 1) X.A) (tk : Takes X W) (hm : X.mg x = some (.ref C)) (ha : PA X (e :: es) t) (hg : Gl X x := by rfl) (hdb : (x == ("__debug__" : Str)) = false := by decide)
    (he : starEach (e :: es) X.env = (false, eval e X.env) :: starEach es X.env := by rfl) (hpl : (backTo pos (starEach es X.env)).any (·.1) = false := by rfl) : PE X (.Call (.Name x p) (e :: es) [] pos) (tMakeS C sp (WE W) t) := by
  constructor
  intro pins s σ H Q I h
  refine wpAny_Call_Name_kw (ld_glob I hg hm ?_ hdb)
  refine PySem.W.callWith_K (h₀ := X.base) I.ok.mod.kin M.kp (thn (ha.run pos pins s σ H _ I h) ?_) he hpl
  rintro us s1 ⟨vs, H1, I1, r, q⟩
  exact ⟨I1.kIn, run_makeS M F hr (fun H2 s2 er s' J c => passAt tk σ pins H2 s2 er s' J c) I1 r q⟩
end
/-- ascending(values): the tuple of the texts in order, each once -/
def spAsc (K : PySem.W.Frag) : Sp := fun vs G Q _ => ∃ (l : Addr) (ts : List Str), vs = [.ref l] ∧ (SqL K G l (ts.map V.str) ∨ SqT K G l (ts.map V.str)) ∧ ts.length < 64 ∧
  ∀ (ss : List Str) p G', Qs.Asc ts ss → G p = none → Same G G' → G' p = some (.tup (ss.map V.str)) → Q (.ref p) G'
end Qi
set_option Elab.async false
set_option linter.all false
set_option maxRecDepth 100000
set_option maxHeartbeats 4000000
/-! def f(a, .., *v, k): called with values and k = value; instances made so; own errors with several fields, raised. -/
namespace Qi
open PySem PySem.Spec PyProof.Rows L2 Qh StX
/-- the promise of such a def: the values, then the keyword's value -/
def FnRK (P : Program) (w : World) (K : PySem.W.Frag) (mg : Str → Option Value) (base : Heap) (CX : CXT) (k : Nat) (f : Addr) (pk : Str) (sp : Sp) : Prop :=
  ∀ (A : Around) (outer : List Env) (s : Shared) (H : Hp) (us : List Value) (u : Value) (vs : List V) (z : V) (Q : VK) (E : XK), Room k A → Env0 P w K mg base A outer s H → Vals vs us → RelV z u → sp (vs ++ [z]) H Q E →
    codeAny (model P w) A (.call (.ref f) ⟨us, [(pk, u)]⟩) (CR CX outer P w H s Q E) s
section
variable {CX : CXT} {P : Program} {w : World} {K : PySem.W.Frag} {mg : Str → Option Value} {base : Heap} {k : Nat} {f : Addr} {name qual : Str} {params : Arguments} {body : List Stmt} {scope : Scope} {dV kV doc pm cdv ct oc : Value} {an od : Option Addr}
  {osl : Array (Option Value)} {N ps : List Str} {sp : Sp}
theorem fn_starK {pv pk : Str} (lk : K.lookup f = some ⟨oc, od, .func (PySem.W.fnOf name qual params body scope dV kV doc pm an cdv ct), osl⟩) (hcd : PySem.W.codeIn K cdv qual = true) (S : FnScope N (ps ++ [pk, pv]) scope) (hCX : CXUp CX)
    (hb : ∀ (us rest : List Value) (u : Value), us.length = ps.length → bindArgs (PySem.W.fnOf name qual params body scope dV kV doc pm an cdv ct) ⟨us ++ rest, [(pk, u)]⟩ = (newTuple rest >>= fun t => pure (ps.zip us ++ [(pk, u), (pv, t)])))
    (hbody : ∀ (A : Around) (outer : List Env) (s : Shared) (H : Hp) (vs : List V) (Q : VK) (E : XK), Room k (A.deeper (envOfC qual scope s.heap.objs.size f cdv)) → sp vs H Q E →
      ∃ t, PSs (cxOf CX P w K mg base N qual scope f cdv A outer s H E) body t ∧ t { nx := fun _ H' => Q .non H', rt := Q } (start N vs) H) :
    FnRK P w K mg base CX (k + 1) f pk (fun vs H Q E => ∃ ws rest z, vs = ws ++ rest ++ [z] ∧ ws.length = ps.length ∧ rest.length ≤ sizeLine ∧ ∀ p, H p = Option.none → sp (ws ++ [z, V.ref p]) (upd H p (.tup rest)) Q E) := by
  intro A outer s H us u vs z Q E hr e0 r rz hsp
  obtain ⟨ws, rest, z', ev, hl, few, want⟩ := hsp
  obtain ⟨e1, e2⟩ := List.append_inj' ev rfl
  obtain rfl : z = z' := by simpa using e2
  subst e1
  obtain ⟨u1, u2, rfl, r1, r2⟩ := vals_split r
  have free : H s.heap.objs.size = Option.none := e0.hok.fresh (Nat.le_refl _)
  have len1 : u1.length = ps.length := by rw [← r1.length]; exact hl
  have len2 : u2.length ≤ sizeLine := by rw [← r2.length]; exact few
  refine run_bnd (ps := ps ++ [pk, pv]) lk hcd S hr e0 (G := fun xs H2 => ∃ p, H p = Option.none ∧ xs = ws ++ [z, V.ref p] ∧ H2 = upd H p (.tup rest)) (fun A' Ex Q' h => ?_) ?_
  · rw [hb u1 u2 u len1]
    refine wpAny_bind (wpAny_newTuple (wpAny_pure ?_) len2)
    have new : ObjOk P w (upd H s.heap.objs.size (.tup rest)) (s.heap.push ({ cls := .type "tuple", data := .seq u2.toArray } : Obj)) s.heap.objs.size (.tup rest) := ⟨few, u2, r2, ⟨_, Heap.get?_push_size _ rfl, rfl, _, rfl⟩⟩
    have un := un_laid (fs := frs outer) (s := s) (o := ({ cls := .type "tuple", data := .seq u2.toArray } : Obj)) (u := .tup rest) free
    have got := h _ _ (ws ++ [z, V.ref s.heap.objs.size]) (u1 ++ [u, Value.ref s.heap.objs.size]) (env0_laid e0 new) un rfl (fun e s' => hCX outer s H _ _ E e s' un (fun b o q => Heap.get?_push_of_some _ q) rfl) (r1.append (.cons rz (.cons rfl .nil)))
      (by rw [List.length_append, List.length_append, hl] <;> rfl) ⟨_, free, rfl, rfl⟩
    rw [List.zip_append len1.symm] at got
    exact got
  · rintro s2 H2 xs ⟨p, hp, rfl, rfl⟩ hr'
    exact hbody A outer s2 _ _ Q E hr' (want p hp)
end
/-- C(e, .., pk = v) -/
def tMakeSK (C : Addr) (sp : Sp) (E : L2.St → XK) (t tk : TA) : TE := fun σ H Q => t σ H fun vs H1 => tk σ H1 fun zs H2 => ∃ z, zs = [z] ∧ ∀ x dx, H2 x = Option.none → H2 dx = Option.none → dx ≠ x →
  sp (V.ref x :: vs ++ [z]) (upd (upd H2 dx (.own x)) x (.ins C dx [])) (fun v H3 => v = .non ∧ Q (.ref x) H3) (E σ)
section
variable {X : Cx} {W : WX} {k : Nat} {f C : Addr} {sp : Sp} {x pk : Str} {e : Expr} {es : List Expr} {kws : List Keyword} {t tkw : TA} {p pos : Pos}
theorem run_makeSK {E : XK} {pins : List (Addr × Obj)} {σ : L2.St} {H : Hp} {s : Shared} {Q : VK} {us : List Value} {u : Value} {vs : List V} {z : V} (M : Mk X.K C f) (F : FnRK X.prog X.w X.K X.mg X.base (L2.CX X.prog X.w) k f pk sp) (hr : Room (k + 1) X.A)
    (hx : ∀ (H2 : Hp) (s2 : Shared) (er : Value) (s' : Shared), Inv X pins σ H2 s2 → L2.CX X.prog X.w X.stack H2 s2 E er s' → X.xe er s') (I : Inv X pins σ H s) (r : Vals vs us) (rz : RelV z u)
    (h : ∀ x dx, H x = Option.none → H dx = Option.none → dx ≠ x → sp (V.ref x :: vs ++ [z]) (upd (upd H dx (.own x)) x (.ins C dx [])) (fun v H2 => v = .non ∧ Q (.ref x) H2) E) :
    wpAny (model X.prog X.w) X.A (call (.ref C) us [(pk, u)]) (EP X pins σ Q) X.xe s := by
  have want := h (s.heap.objs.size + 1) s.heap.objs.size (I.hok.fresh (Nat.le_succ _)) (I.hok.fresh (Nat.le_refl _)) (Nat.ne_of_lt (Nat.lt_succ_self _))
  have J := Inv.made (C := C) I
  have rr : Vals (V.ref (s.heap.objs.size + 1) :: vs) (Value.ref (s.heap.objs.size + 1) :: us) := .cons rfl r
  refine wpAny_call (make_map (f := f) I.kIn M.makes M.init (beq_iff_eq.mp M.fn) (codeAny_mono (F _ X.stack _ _ (Value.ref (s.heap.objs.size + 1) :: us) u _ z _ E (hr.make C us [(pk, u)]) (J.env0.make C us [(pk, u)]) rr rz want) ?_))
  rintro (er | fl) s' hq
  · exact hx _ _ er s' J hq
  · cases fl with
    | next => exact hq.elim
    | brk => exact hq.elim
    | cont => exact hq.elim
    | ret v' =>
      obtain ⟨v, H2, J2, rv, ev, q⟩ := J.after hq
      subst ev
      exact ⟨rv, .ref (s.heap.objs.size + 1), H2, J2, rfl, q⟩
theorem pe_makeSK (M : Mk X.K C f) (F : FnRK X.prog X.w X.K X.mg X.base (L2.CX X.prog X.w) k f pk sp) (hr : Room (k + 1) X.A) (tk : Takes X W) (hm : X.mg x = some (.ref C)) (ha : PA X (e :: es) t) (hkw : PK X kws tkw) (hg : Gl X x := by rfl) (hdb : (x == ("__debug__" : Str)) = false := by decide)
    (hall : (backToKw pos (keywordEach kws X.env)).all (·.1.isSome) = true := by rfl) (hks : (backToKw pos (keywordEach kws X.env)).filterMap (·.1) = [pk] := by rfl)
    (he : starEach (e :: es) X.env = (false, eval e X.env) :: starEach es X.env := by rfl) (hpl : ((backTo pos (starEach (e :: es) X.env)).any (·.1) || (backToKw pos (keywordEach kws X.env)).any (·.1.isNone)) = false := by rfl) :
    PE X (.Call (.Name x p) (e :: es) kws pos) (tMakeSK C sp (WE W) t tkw) := by
  constructor
  intro pins s σ H Q I h
  refine wpAny_Call_Name_kw (ld_glob I hg hm ?_ hdb)
  refine PySem.W.callWith_KW (h₀ := X.base) I.ok.mod.kin M.kp hall (thn (ha.run pos pins s σ H _ I h) ?_) hpl he
  rintro us s1 ⟨vs, H1, I1, r, q⟩
  refine thn (hkw.run pos pins s1 σ H1 _ I1 q) ?_
  rintro ws s2 ⟨zs, H2, I2, rz, z, rfl, q2⟩
  refine ⟨I2.kIn, ?_⟩
  rw [hks]
  cases rz with
  | cons r1 r2 =>
    cases r2
    exact run_makeSK M F hr (fun H3 s3 er s' J c => passAt tk σ pins H3 s3 er s' J c) I2 r r1 q2
end
/-! ### own errors with several fields, raised -/
structure ErrN (P : Program) (w : World) (K : PySem.W.Frag) (mg : Str → Option Value) (base : Heap) (x : Str) (fields : List Str) (C : Addr) : Prop where
  c : ErrC K mg x C
  no : ∀ f ∈ fields, PySem.W.findIn K (.ref C) f = some none
  init : ∃ (fI : Addr) (fd : FuncData), PySem.W.findIn K (.ref C) "__init__" = some (some (.ref fI)) ∧ PySem.W.typeIn K (.ref fI) = some (.type "function") ∧ Binds K fd (("self" : Str) :: fields) [] ∧
    FnOk P w K mg base (L2.CX P w) 1 fI fd (("self" : Str) :: fields) (Qv.spErrG C fields)
section
variable {X : Cx} {x : Str} {C : Addr} {fields : List Str} {e : Expr} {es : List Expr} {t : TA} {p pos : Pos}
theorem pmk_errN (T : ErrN X.prog X.w X.K X.mg X.base x fields C) (hr : Room 2 X.A) (ha : PA X (e :: es) t) (hg : Gl X x := by rfl) (hdb : (x == ("__debug__" : Str)) = false := by decide)
    (hs : starEach (e :: es) X.env = (false, eval e X.env) :: starEach es X.env := by rfl) (hpl : (backTo pos (starEach es X.env)).any (·.1) = false := by rfl) :
    PMk X (.Call (.Name x p) (e :: es) [] pos) (tMkO C (Qv.spErrG C fields) [] t) := by
  obtain ⟨fI, fd, iC, tI, hb, F⟩ := T.init
  exact pmk_oex (p := p) (pos := pos) T.c.o iC tI F hr hb .nil passL hg T.c.g ha hdb hs hpl
end
/-- .. what its reading ends in -/
theorem errN_end {fields : List Str} {C : Addr} {ws : List V} {G1 : Hp} {Q : XK} (hl : ws.length = fields.length) (few : ws.length ≤ 1000) (q : ∀ d, G1 d = none → Q (.ref C) (some d) (upd G1 d (.xd (fields.zip ws).reverse))) :
    ws.length ≤ 1000 ∧ ∀ a, G1 a = none → Qv.spErrG C fields (.ref a :: (ws ++ [])) (upd G1 a (exo a C none))
      (fun v H2 => v = .non ∧ ∃ (d : Addr) (fs : List (Str × V)), H2 a = some (exo a C (some d)) ∧ H2 d = some (exd d fs) ∧ G1 d = none ∧ Q (.ref C) (some d) (upd (del H2 a) d (.xd fs))) (fun _ _ _ => False) := by
  refine ⟨few, fun a ha => ⟨a, ws, by rw [List.append_nil], hl, upd_same, fun d hd da => ⟨rfl, d, (fields.zip ws).reverse, upd_same, ?_, ?_, ?_⟩⟩⟩
  · rw [upd_ne da, upd_same]
  · rw [upd_ne da] at hd
    exact hd
  · rw [err_heap ha da]
    rw [upd_ne da] at hd
    exact q d hd
end Qi
set_option Elab.async false
set_option linter.all false
set_option maxRecDepth 100000
set_option maxHeartbeats 4000000
namespace K08
open PySem PySem.Spec PyProof.Rows L2 TL Qh Qi
abbrev sInit : Stmt := inClass (top 19) 1
abbrev sErrInit : Stmt := inClass (top 2) 0
section
variable {P : Program} {w : World} {K : PySem.W.Frag} {mg : Str → Option Value} {base : Heap}
theorem scErrInit : FnScope ["self", "reason", "index"] ["self", "reason", "index"] (defScope sErrInit) := ⟨rfl, rfl, rfl, by decide +kernel, rfl, by decide +kernel, by decide +kernel⟩
theorem two_of {l : List V} (h : l.length = 2) : ∃ a b, l = [a, b] := match l, h with
  | [a, b], _ => ⟨a, b, rfl⟩
theorem heap2 {G : Hp} {a d : Addr} {x y z : HO} (n : d ≠ a) : L2.upd (L2.upd (L2.upd G d x) a y) d z = L2.upd (L2.upd G d z) a y := by
  funext b
  by_cases hb : b = d
  · subst hb
    rw [upd_same, upd_ne n, upd_same]
  · rw [upd_ne hb]
    by_cases ha : b = a
    · subst ha
      rw [upd_same, upd_same]
    · rw [upd_ne ha, upd_ne hb, upd_ne ha, upd_ne hb]
theorem ok_errInit {C f : Addr} {fd : FuncData} (F : Fun K "__init__" "InvalidStep.__init__" sErrInit f fd) (T : OexC K C) (no : ∀ x ∈ (["reason", "index"] : List Str), PySem.W.findIn K (.ref C) x = some none) : FnOk P w K mg base (L2.CX P w) 1 f fd ["self", "reason", "index"] (Qv.spErrG C ["reason", "index"]) := by
  refine F.okX scErrInit (fun vs G Q E h => ?_) (fun cdv A out t G vs Q E hr h => ?_)
  · obtain ⟨a, ws, rfl, hl, _⟩ := h
    rw [List.length_cons, hl]
    rfl
  · obtain ⟨a, ws, rfl, hl, ha, k⟩ := h
    obtain ⟨y1, y2, rfl⟩ := two_of hl
    refine ⟨_, pss_cons (ps_ost (pv 0) (pv 1)) (pss_one (ps_ost (pv 0) (pv 2))), ?_⟩
    refine ⟨_, rfl, _, rfl, a, C, rfl, T, no _ List.mem_cons_self, .inl ⟨ha, fun dx hd da => ?_⟩⟩
    refine ⟨_, rfl, _, rfl, a, C, rfl, T, no _ (List.mem_cons_of_mem _ List.mem_cons_self), .inr ⟨dx, _, upd_same, by rw [upd_ne da, upd_same], by show 1 ≤ 900; decide, ?_⟩⟩
    rw [heap2 da]
    exact k dx hd da
/-- what a value tells as a rule -/
def RV (G : Hp) (v : V) : Option (List (List Str)) → Prop
  | none => v = .non
  | some r => ∃ q, v = .ref q ∧ RuleAt G q r
inductive RVs (G : Hp) : List V → List (Option (List (List Str))) → Prop
  | nil : RVs G [] []
  | cons {v : V} {vs : List V} {o : Option (List (List Str))} {os : List (Option (List (List Str)))} : RV G v o → RVs G vs os → RVs G (v :: vs) (o :: os)
theorem RV.same {G G' : Hp} (s : Same G G') {v : V} : ∀ {o : Option (List (List Str))}, RV G v o → RV G' v o
  | none, h => h
  | some _, ⟨q, e, h⟩ => ⟨q, e, h.same s⟩
theorem RVs.same {G G' : Hp} (s : Same G G') : ∀ {vs : List V} {os : List (Option (List (List Str)))}, RVs G vs os → RVs G' vs os
  | _, _, .nil => .nil
  | _, _, .cons h t => .cons (h.same s) (RVs.same s t)
theorem RVs.snoc {G : Hp} {v : V} {o : Option (List (List Str))} (h : RV G v o) : ∀ {vs : List V} {os : List (Option (List (List Str)))}, RVs G vs os → RVs G (vs ++ [v]) (os ++ [o])
  | _, _, .nil => .cons h .nil
  | _, _, .cons k t => .cons k (RVs.snoc h t)
theorem RVs.len {G : Hp} : ∀ {vs : List V} {os : List (Option (List (List Str)))}, RVs G vs os → vs.length = os.length
  | _, _, .nil => rfl
  | _, _, .cons _ t => by rw [List.length_cons, List.length_cons, RVs.len t]
/-- .. as data -/
def ruleData : Option (List (List Str)) → PyData
  | none => .none
  | some r => .tuple (r.map fun ts => .tuple (ts.map PyData.str))
theorem sides_dp {K : PySem.W.Frag} {G : Hp} : ∀ {as : List Addr} {r : List (List Str)}, SidesAt G as r → DpAll K G (as.map V.ref) (r.map fun ts => PyData.tuple (ts.map PyData.str))
  | _, _, .nil => .nil
  | _, _, .cons h t => .cons (.tup (SqT.of h) (dp_strs _)) (sides_dp t)
theorem rv_dp {K : PySem.W.Frag} {G : Hp} {v : V} : ∀ {o : Option (List (List Str))}, RV G v o → Dp K G v (ruleData o)
  | none, h => by
    have h : v = .non := h
    rw [h]
    exact .non
  | some r, ⟨q, e, as, h1, h2⟩ => by
    rw [e]
    exact .tup (SqT.of h1) (sides_dp h2)
theorem rvs_dp {K : PySem.W.Frag} {G : Hp} : ∀ {vs : List V} {os : List (Option (List (List Str)))}, RVs G vs os → DpAll K G vs (os.map ruleData)
  | _, _, .nil => .nil
  | _, _, .cons h t => .cons (rv_dp h) (rvs_dp t)
theorem rule_eqv (o : Option (List (List Str))) : PyData.eqv (ruleData o) .none = o.isNone := by
  cases o <;> rfl
end
end K08
set_option Elab.async false
set_option linter.all false
set_option maxRecDepth 100000
set_option maxHeartbeats 4000000
namespace K08
open PySem PySem.Spec PyProof.Rows L2 TL Qh Qi ClX
theorem side_txt {ts : List Str} (h : sideS ts = true) : ∀ y ∈ ts, txt y = true := fun y hy => by
  unfold sideS at h
  exact clean_txt (word_clean (List.all_eq_true.mp (Bool.and_eq_true_iff.mp h).2 y hy))
theorem lay_sides : ∀ r : List (List Str), r.all sideS = true → PyData.canLayAll0 (r.map fun ts => PyData.tuple (ts.map PyData.str)) = true ∧ PyData.depthAll (r.map fun ts => PyData.tuple (ts.map PyData.str)) ≤ 1
  | [], _ => ⟨rfl, Nat.zero_le _⟩
  | ts :: r, h => by
    rw [List.all_cons] at h
    obtain ⟨h1, h2⟩ := Bool.and_eq_true_iff.mp h
    obtain ⟨i1, i2⟩ := lay_sides r h2
    obtain ⟨j1, j2⟩ := lay_strs ts (side_txt h1)
    constructor
    · show (PyData.canLayAll0 (ts.map PyData.str) && PyData.canLayAll0 (r.map fun ts => PyData.tuple (ts.map PyData.str))) = true
      rw [i1, j1]
      rfl
    · show max (PyData.depthAll (ts.map PyData.str) + 1) (PyData.depthAll (r.map fun ts => PyData.tuple (ts.map PyData.str))) ≤ 1
      rw [j2]
      omega
def okRule (o : Option (List (List Str))) : Prop := ∀ r, o = some r → r.all sideS = true
theorem ruleV_ok (v : V) : okRule (ruleV v) := fun r h => by
  cases v with
  | str x =>
    have h : ruleS x = some r := h
    unfold ruleS at h
    split at h
    · rename_i c
      rw [← Option.some.inj h]
      exact (Bool.and_eq_true_iff.mp c).2
    · cases h
  | _ => cases h
theorem lay_rules : ∀ os : List (Option (List (List Str))), (∀ o ∈ os, okRule o) → PyData.canLayAll0 (os.map ruleData) = true ∧ PyData.depthAll (os.map ruleData) ≤ 2
  | [], _ => ⟨rfl, Nat.zero_le _⟩
  | o :: os, h => by
    obtain ⟨i1, i2⟩ := lay_rules os fun x hx => h x (List.mem_cons_of_mem _ hx)
    have ho := h o List.mem_cons_self
    cases o with
    | none =>
      constructor
      · show (true && PyData.canLayAll0 (os.map ruleData)) = true
        rw [i1]
        rfl
      · show max 0 (PyData.depthAll (os.map ruleData)) ≤ 2
        omega
    | some r =>
      obtain ⟨j1, j2⟩ := lay_sides r (ho r rfl)
      constructor
      · show (PyData.canLayAll0 (r.map fun ts => PyData.tuple (ts.map PyData.str)) && PyData.canLayAll0 (os.map ruleData)) = true
        rw [i1, j1]
        rfl
      · show max (PyData.depthAll (r.map fun ts => PyData.tuple (ts.map PyData.str)) + 1) (PyData.depthAll (os.map ruleData)) ≤ 2
        omega
theorem shaped_rules {os : List (Option (List (List Str)))} (h : ∀ o ∈ os, okRule o) : SeqAt.shaped (.list (os.map ruleData)) = true := by
  obtain ⟨i1, i2⟩ := lay_rules os h
  show (PyData.canLayAll0 (os.map ruleData) && decide (PyData.depthAll (os.map ruleData) + 1 ≤ 64)) = true
  rw [i1, decide_eq_true (show PyData.depthAll (os.map ruleData) + 1 ≤ 64 by omega)]
  rfl
theorem sides_put {G : Hp} {D : Addr} {o : HO} (ne : ∀ a l, G a = some (.tup l) → a ≠ D) : ∀ {as : List Addr} {r : List (List Str)}, SidesAt G as r → SidesAt (L2.upd G D o) as r
  | _, _, .nil => .nil
  | _, _, .cons h t => .cons (by rw [upd_ne (ne _ _ h)]; exact h) (sides_put ne t)
theorem rv_put {G : Hp} {D : Addr} {o : HO} (ne : ∀ a l, G a = some (.tup l) → a ≠ D) {v : V} : ∀ {os : Option (List (List Str))}, RV G v os → RV (L2.upd G D o) v os
  | none, h => h
  | some _, ⟨q, e, as, h1, h2⟩ => ⟨q, e, as, by rw [upd_ne (ne _ _ h1)]; exact h1, sides_put ne h2⟩
theorem rvs_put {G : Hp} {D : Addr} {o : HO} (ne : ∀ a l, G a = some (.tup l) → a ≠ D) : ∀ {vs : List V} {os : List (Option (List (List Str)))}, RVs G vs os → RVs (L2.upd G D o) vs os
  | _, _, .nil => .nil
  | _, _, .cons h t => .cons (rv_put ne h) (rvs_put ne t)
theorem tup_ne_lst {G : Hp} {D : Addr} {l : List V} (h : G D = some (.lst l)) : ∀ a t, G a = some (.tup t) → a ≠ D := fun a t e z => by
  rw [z, h] at e
  cases e
theorem tup_ne_ins {G : Hp} {D C dx : Addr} {fs : List (Str × V)} (h : G D = some (.ins C dx fs)) : ∀ a t, G a = some (.tup t) → a ≠ D := fun a t e z => by
  rw [z, h] at e
  cases e
theorem first_none : ∀ os : List (Option (List (List Str))), (os.map ruleData).any (fun z => PyData.eqv z .none) = true → ∃ j : Nat, os[j]? = some none ∧ ∀ (m : Nat) o, m < j → os[m]? = some o → o ≠ none
  | [], h => by cases h
  | none :: os, _ => ⟨0, rfl, fun m o hm _ => absurd hm (Nat.not_lt_zero m)⟩
  | some r :: os, h => by
    have h : (os.map ruleData).any (fun z => PyData.eqv z .none) = true := h
    obtain ⟨j, h1, h2⟩ := first_none os h
    refine ⟨j + 1, h1, fun m o hm e => ?_⟩
    cases m with
    | zero =>
      cases e
      exact fun z => nomatch z
    | succ m => exact h2 m o (by omega) e
theorem no_none {os : List (Option (List (List Str)))} (h : (os.map ruleData).any (fun z => PyData.eqv z .none) = false) : ∀ o ∈ os, o ≠ none := fun o ho z => by
  subst z
  rw [List.any_eq_false] at h
  exact h _ (List.mem_map.mpr ⟨none, ho, rfl⟩) rfl
/-- a value of which it is known whether it is a bool -/
def KeepV (K : PySem.W.Frag) (G : Hp) (v : V) : Prop := (∃ b, v = .bl b) ∨ ((∀ b, v ≠ .bl b) ∧ ∃ t, TyX K G v t ∧ PySem.W.kitOne K t (.type "bool") = some false)
structure SameC (K : PySem.W.Frag) (mg : Str → Option Value) (C : Addr) : Prop where
  g : mg "Same" = some (.ref C)
  cl : Cls K C
  n1 : NoAttr K C "rules"
  n2 : NoAttr K C "keep"
  most : ∃ mc u, CRead K C mc ∧ CVal K C mc "MOST" (.int 8) u
def ErrStep (G G' : Hp) (d : Addr) (reason : Str) (i : V) : Prop := G d = none ∧ Same G G' ∧ G' d = some (.xd [("index", i), ("reason", .str reason)])
def spInit (K : PySem.W.Frag) (C CE : Addr) : Sp := fun vs G Q E => ∃ (x dx p : Addr) (xs : List V) (kv : V), vs = [.ref x, kv, .ref p] ∧ G x = some (.ins C dx []) ∧ G p = some (.tup xs) ∧ (∀ v ∈ xs, ∀ G', Same G G' → Known K G' v) ∧ xs.length ≤ 100000 ∧ (∀ G', Same G G' → KeepV K G' kv) ∧
  ((decide ((1 : Int) ≤ (xs.length : Int)) && decide ((xs.length : Int) ≤ 8)) = false → ∀ d G', ErrStep G G' d "rules" .non → E (.ref CE) (some d) G') ∧
  ((decide ((1 : Int) ≤ (xs.length : Int)) && decide ((xs.length : Int) ≤ 8)) = true → ∀ i : Nat, (xs.map ruleV)[i]? = some none → (∀ j o, j < i → (xs.map ruleV)[j]? = some o → o ≠ none) → ∀ d G', ErrStep G G' d "rule" (.int (i : Int)) → E (.ref CE) (some d) G') ∧
  ((decide ((1 : Int) ≤ (xs.length : Int)) && decide ((xs.length : Int) ≤ 8)) = true → (∀ o ∈ xs.map ruleV, o ≠ none) → (∀ b, kv ≠ .bl b) → ∀ d G', ErrStep G G' d "keep" .non → E (.ref CE) (some d) G') ∧
  ((decide ((1 : Int) ≤ (xs.length : Int)) && decide ((xs.length : Int) ≤ 8)) = true → (∀ o ∈ xs.map ruleV, o ≠ none) → ∀ b, kv = .bl b → ∀ (D : Addr) (vs : List V) G', Kp x G G' → G' x = some (.ins C dx [("rules", .ref D), ("keep", .bl b)]) → G' D = some (.tup vs) → RVs G' vs (xs.map ruleV) → Q .non G')
section
variable {P : Program} {w : World} {K : PySem.W.Frag} {mg : Str → Option Value} {base : Heap}
theorem scInit : FnScope ["self", "keep", "rules", "sides", "rule"] ["self", "keep", "rules"] (defScope sInit) := ⟨rfl, rfl, rfl, by decide +kernel, rfl, by decide +kernel, by decide +kernel⟩
theorem body_init {C CE : Addr} (B : Blt mg) (T : SameC K mg C) (TE : ErrN P w K mg base "InvalidStep" ["reason", "index"] CE) (F_rule_of : Ok P w K mg base "rule_of" (defArgs sRuleOf) ["value"] 4 (spRuleOf K))
    {f : Addr} (cdv : Value) (A : Around) (out : List Env) (t : Shared) (G : Hp) (vs : List V) (Q : VK) (E : XK) (hr : Room 4 (A.deeper (envOfC "Same.__init__" (defScope sInit) t.heap.objs.size f cdv))) (h : spInit K C CE vs G Q E) :
    ∃ rd, PSs (cxOf (L2.CX P w) P w K mg base ["self", "keep", "rules", "sides", "rule"] "Same.__init__" (defScope sInit) f cdv A out t G E) (defBody sInit) rd ∧ rd { nx := fun _ G' => Q .non G', rt := Q } (start ["self", "keep", "rules", "sides", "rule"] vs) G := by
  obtain ⟨x, dx, p, xs, kv, rfl, hx, hp, hk, hn, hkv, kA, kB, kC, kD⟩ := h
  have hu65 : (A.deeper (envOfC (Str.ofString "Same.__init__") (defScope sInit) t.heap.objs.size f cdv)).units + 65 < cLine := by
    have := hr.un
    omega
  refine ⟨_, (pss_cons (ps_if (pt_not (pt_chain op_le op_le pe_int (pe_callB call_len (by rfl) B.n_len bt_len (pa_cons (pv 2) pa_nil)) (pe_cval (pe_glob (v := .ref C) rfl T.g rfl)))) (pss_one (ps_raise rfl (takes_of rfl rfl rfl rfl) (pmk_errN TE (hr.mono (by decide)) (pa_cons pe_str (pa_cons pe_non pa_nil))))) pss_nil)
    (pss_cons (ps_setLc (i := 3) (own := [("rule", 4)]) (tt := tYes) rfl scInit.nd rfl rfl (sw_true rfl rfl rfl (by decide +kernel)) (pi_tup (pv 2)) (blkOk_by (N := ["self", "keep", "rules", "sides", "rule"]) (sc := defScope sInit) (by decide +kernel)) (fun _ _ _ _ _ => pg_name (i := 4) scInit.nd rfl (by first | exact Or.inl rfl | exact Or.inr rfl)) (fun _ _ _ _ _ => pts_nil) (fun _ _ _ _ _ => (pe_own F_rule_of (hr.mono (by decide)) takes0 (pa_cons (pv 4) pa_nil))))
    (pss_cons (ps_if (pt_cmpR (op_inD hu65) pe_non (pv 3) (by rfl)) (pss_one (ps_raise rfl (takes_of rfl rfl rfl rfl) (pmk_errN TE (hr.mono (by decide)) (pa_cons pe_str (pa_cons (pe_bm PySem.F.plainAttrs_list PySem.F.slot_list_index PySem.F.type_list_index (mt_indexD hu65) (pv 3) (pa_cons pe_non pa_nil)) pa_nil))))) pss_nil)
    (pss_cons (ps_if (pt_not (pt_val (pe_callB call_isi (by rfl) B.n_isinstance bt_isinstance (pa_cons (pv 1) (pa_cons (pe_bltn (v := .ty "bool") (by rfl) B.n_bool bt_bool rfl) pa_nil))))) (pss_one (ps_raise rfl (takes_of rfl rfl rfl rfl) (pmk_errN TE (hr.mono (by decide)) (pa_cons pe_str (pa_cons pe_non pa_nil))))) pss_nil)
    (pss_cons (ps_fld (pv 0) (pe_callTy cn_tuple (by rfl) B.n_tuple bt_tuple (pa_cons (pv 3) pa_nil)) rfl)
    (pss_one (ps_fld (pv 0) (pv 1) rfl))))))), ?_⟩
  refine ⟨_, rfl, .ref p, _, rfl, .inr ⟨_, SqT.of hp, rfl⟩, _, _, rfl, rfl, _, rfl, ?_⟩
  have raise : ∀ (reason : Str) (i : V) (G' : Hp), (∀ d G2, ErrStep G' G2 d reason i → E (.ref CE) (some d) G2) → _ := fun reason i G' kx => errN_end (fields := ["reason", "index"]) (C := CE) (ws := [.str reason, i]) (G1 := G') (Q := fun cls d G' => E cls d G') rfl (by show 2 ≤ 1000; decide) fun d hd => kx d _ ⟨hd, Same.new hd, upd_same⟩
  refine ite2 (fun h1 => ?_) (fun h1 => ?_)
  case refine_2 =>
    refine ⟨_, rfl, iteT ?_⟩
    exact raise "rules" .non G (kA (by rw [Bool.eq_false_iff.mpr h1, Bool.false_and]))
  obtain ⟨mc, u8, cr, cv⟩ := T.most
  refine ⟨C, mc, .int 8, u8, rfl, cr, cv, ?_⟩
  refine ⟨_, _, rfl, rfl, _, rfl, ?_⟩
  refine ite2 (fun h2 => ?_) (fun h2 => ?_)
  · have h2 : decide ((xs.length : Int) ≤ 8) = false := by simpa using h2
    exact raise "rules" .non G (kA (by rw [h2, Bool.and_false]))
  have h2 : decide ((xs.length : Int) ≤ 8) = true := by simpa using h2
  have h12 : (decide ((1 : Int) ≤ (xs.length : Int)) && decide ((xs.length : Int) ≤ 8)) = true := by rw [h1, h2]; rfl
  have kB := kB h12
  have kC := kC h12
  have kD := kD h12
  refine ⟨_, rfl, p, rfl, ⟨_, SqT.of hp⟩, fun D hD => ?_⟩
  refine lc_tup (fun i G' => ∃ vs, G' D = some (.lst vs) ∧ RVs G' vs ((xs.take i).map ruleV) ∧ Same G G' ∧ vs.length = i) ⟨[], upd_same, .nil, Same.new hD, rfl⟩ (fun i G' _ ⟨_, _, _, sm, _⟩ => SqT.of (sm _ _ hp)) ?_ ?_
  · rintro i v G1 hi ⟨vs, hl, hrv, sm, hnv⟩
    have hil := (List.getElem?_eq_some_iff.mp hi).1
    have put : ∀ (y : V) (G2 : Hp), Same G1 G2 → RV G2 y (ruleV v) → ∃ acc, G2 D = some (.lst acc) ∧ acc.length < sizeLine ∧ ∃ vs, (L2.upd G2 D (.lst (acc ++ [y]))) D = some (.lst vs) ∧ RVs (L2.upd G2 D (.lst (acc ++ [y]))) vs ((xs.take (i + 1)).map ruleV) ∧ Same G (L2.upd G2 D (.lst (acc ++ [y]))) ∧ vs.length = i + 1 := fun y G2 s2 ry => by
      have hl2 := s2 _ _ hl
      refine ⟨vs, hl2, by rw [hnv]; exact big_line' (by omega), vs ++ [y], upd_same, ?_, Same.fresh (sm.trans s2) hD, by simp [hnv]⟩
      rw [take_get hi, List.map_append]
      exact rvs_put (tup_ne_lst hl2) (RVs.snoc ry (hrv.same s2))
    refine ⟨rfl, ?_⟩
    refine ⟨_, rfl, v, rfl, hk v (List.mem_of_getElem? hi) G1 sm, fun e G2 s2 => ?_, fun r e q G2 s2 ra => ?_⟩
    · exact put .non G2 s2 (by rw [e]; exact rfl)
    · exact put (.ref q) G2 s2 (by rw [e]; exact ⟨q, rfl, ra⟩)
  · rintro G1 ⟨vs, hl, hrv, sm, hnv⟩
    rw [List.take_length] at hrv
    have okr : ∀ o ∈ xs.map ruleV, okRule o := fun o ho => by
      obtain ⟨v, _, rfl⟩ := List.mem_map.mp ho
      exact ruleV_ok v
    have shp := shaped_rules okr
    refine ⟨_, rfl, .none, (xs.map ruleV).map ruleData, .non, .lst (SqL.of hl) (rvs_dp hrv), rfl, shp, _, rfl, ?_⟩
    refine ite2 (fun hany => ?_) (fun hany => ?_)
    · obtain ⟨j, hj, hmin⟩ := first_none _ hany
      refine ⟨_, rfl, .inl ⟨rfl, _, SqL.of hl⟩, D, .non, .none, (xs.map ruleV).map ruleData, j, .none, rfl, rfl, .lst (SqL.of hl) (rvs_dp hrv), .non, shp, rfl, ?_, rfl, fun m z' hm hz' => ?_, ?_⟩
      · rw [List.getElem?_map, hj]
        rfl
      · rw [List.getElem?_map] at hz'
        cases e : (xs.map ruleV)[m]? with
        | none =>
          rw [e] at hz'
          cases hz'
        | some o =>
          rw [e] at hz'
          obtain rfl := Option.some.inj hz'
          rw [rule_eqv]
          have := hmin m o hm e
          cases o with
          | none => exact absurd rfl this
          | some _ => rfl
      · exact raise "rule" (.int (j : Int)) G1 fun d G2 es => kB j hj hmin d G2 ⟨sm.free es.1, sm.trans es.2.1, es.2.2⟩
    · have hno := no_none (Bool.eq_false_iff.mpr hany)
      rcases hkv G1 sm with ⟨b, rfl⟩ | ⟨hnb, ty, hty, hkit⟩
      · refine ⟨_, rfl, _, _, _, _, _, rfl, .ty _, .base (.bl b), kit_ty (r := true) (by decide +kernel), _, rfl, ?_⟩
        refine iteF ?_
        refine ⟨_, rfl, D, _, rfl, SqL.of hl, fun u G2 hu su lu => ?_⟩
        have hx2 : G2 x = some (.ins C dx []) := su _ _ (sm _ _ hx)
        refine ⟨_, rfl, x, C, dx, [], rfl, hx2, T.cl, T.n1, by show 0 < 1000; decide, ?_⟩
        refine ⟨_, rfl, _, rfl, x, C, dx, _, rfl, upd_same, T.cl, T.n2, by show 1 < 1000; decide, ?_⟩
        have ux := tup_ne_ins hx2 u _ lu
        refine kD hno b rfl u vs _ (((Kp.same (sm.trans su)).trans Kp.self).trans Kp.self) (by rw [upd_same]; rfl) ?_ ?_
        · rw [upd_ne ux, upd_ne ux]
          exact lu
        · rw [upd_upd]
          exact rvs_put (tup_ne_ins hx2) (hrv.same su)
      · refine ⟨_, rfl, _, _, _, _, _, rfl, .ty _, hty, hkit, _, rfl, ?_⟩
        refine iteT ?_
        exact raise "keep" .non G1 fun d G2 es => kC hno hnb d G2 ⟨sm.free es.1, sm.trans es.2.1, es.2.2⟩
end
end K08
set_option Elab.async false
set_option linter.all false
set_option maxRecDepth 100000
set_option maxHeartbeats 4000000
namespace K08
open PySem PySem.Spec PyProof.Rows L2 TL Qh Qi ClX
/-- what a call of __init__ with keep = .. asks -/
def spInitK (K : PySem.W.Frag) (C CE : Addr) : Sp := fun vs H Q E => ∃ ws rest z, vs = ws ++ rest ++ [z] ∧ ws.length = 1 ∧ rest.length ≤ sizeLine ∧ ∀ p, H p = Option.none → spInit K C CE (ws ++ [z, V.ref p]) (L2.upd H p (.tup rest)) Q E
section
variable {P : Program} {w : World} {K : PySem.W.Frag} {mg : Str → Option Value} {base : Heap}
theorem ok_init {C CE f : Addr} {fd : FuncData} (F : Fun K "__init__" "Same.__init__" sInit f fd) (B : Blt mg) (T : SameC K mg C) (TE : ErrN P w K mg base "InvalidStep" ["reason", "index"] CE) (F_rule_of : Ok P w K mg base "rule_of" (defArgs sRuleOf) ["value"] 4 (spRuleOf K)) :
    FnRK P w K mg base (L2.CX P w) 5 f "keep" (spInitK K C CE) := by
  obtain ⟨oc, od, kV, doc, pm, an, cdv, ct, osl, rfl, lk, hcd⟩ := F.ex
  exact fn_starK (ps := ["self"]) (pv := "rules") (pk := "keep") lk hcd scInit StX.cxUp (fun us rest u hl => match us, rest, hl with
    | [_], [], _ => rfl
    | [_], _ :: _, _ => rfl) fun A out t G vs Q E hr h => body_init B T TE F_rule_of cdv A out t G vs Q E hr h
theorem make_want {C CE : Addr} {H : Hp} {xs : List V} {kv : V} {Q : VK} {E : XK} (hk : ∀ v ∈ xs, ∀ G', Same H G' → Known K G' v) (hn : xs.length ≤ 100000) (hkv : ∀ G', Same H G' → KeepV K G' kv)
    (kA : (decide ((1 : Int) ≤ (xs.length : Int)) && decide ((xs.length : Int) ≤ 8)) = false → ∀ d G', ErrStep H G' d "rules" .non → E (.ref CE) (some d) G')
    (kB : (decide ((1 : Int) ≤ (xs.length : Int)) && decide ((xs.length : Int) ≤ 8)) = true → ∀ i : Nat, (xs.map ruleV)[i]? = some none → (∀ j o, j < i → (xs.map ruleV)[j]? = some o → o ≠ none) → ∀ d G', ErrStep H G' d "rule" (.int (i : Int)) → E (.ref CE) (some d) G')
    (kC : (decide ((1 : Int) ≤ (xs.length : Int)) && decide ((xs.length : Int) ≤ 8)) = true → (∀ o ∈ xs.map ruleV, o ≠ none) → (∀ b, kv ≠ .bl b) → ∀ d G', ErrStep H G' d "keep" .non → E (.ref CE) (some d) G')
    (kD : (decide ((1 : Int) ≤ (xs.length : Int)) && decide ((xs.length : Int) ≤ 8)) = true → (∀ o ∈ xs.map ruleV, o ≠ none) → ∀ b, kv = .bl b → ∀ (x dx D : Addr) (vs : List V) G', H x = none → Same H G' → G' x = some (.ins C dx [("rules", .ref D), ("keep", .bl b)]) → G' D = some (.tup vs) → RVs G' vs (xs.map ruleV) → Q (.ref x) G')
    (x dx : Addr) (hx : H x = none) (hdx : H dx = none) (ne : dx ≠ x) :
    spInitK K C CE (V.ref x :: xs ++ [kv]) (L2.upd (L2.upd H dx (.own x)) x (.ins C dx [])) (fun v H2 => v = .non ∧ Q (.ref x) H2) E := by
  refine ⟨[.ref x], xs, kv, rfl, rfl, big_line (by omega), fun p hp => ?_⟩
  have px : p ≠ x := fun e => by
    rw [e, upd_same] at hp
    cases hp
  have s1 : Same H (L2.upd (L2.upd H dx (.own x)) x (.ins C dx [])) := fun b o e => by
    rw [upd_ne (ne_of_none e hx), upd_ne (ne_of_none e hdx)]
    exact e
  have s2 : Same H (L2.upd (L2.upd (L2.upd H dx (.own x)) x (.ins C dx [])) p (.tup xs)) := s1.trans (Same.new hp)
  have err : ∀ {d : Addr} {G' : Hp} {r : Str} {i : V}, ErrStep (L2.upd (L2.upd (L2.upd H dx (.own x)) x (.ins C dx [])) p (.tup xs)) G' d r i → ErrStep H G' d r i := fun e => ⟨s2.free e.1, s2.trans e.2.1, e.2.2⟩
  refine ⟨x, dx, p, xs, kv, rfl, by rw [upd_ne px.symm, upd_same], upd_same, fun v hv G' s => hk v hv G' (s2.trans s), hn, fun G' s => hkv G' (s2.trans s), fun h d G' e => kA h d G' (err e), fun h i h1 h2 d G' e => kB h i h1 h2 d G' (err e), fun h h1 h2 d G' e => kC h h1 h2 d G' (err e), ?_⟩
  intro h h1 b hb D vs G' kp ix tD rv
  refine ⟨rfl, kD h h1 b hb x dx D vs G' hx (fun c o e => ?_) ix tD rv⟩
  exact kp c o (ne_of_none e hx) (s2 _ _ e)
end
end K08
set_option Elab.async false
set_option linter.all false
set_option maxRecDepth 100000
set_option maxHeartbeats 4000000
namespace K08
open PySem PySem.Spec PyProof.Rows L2 TL Qh
abbrev sTold : Stmt := top 28
/-- lists of these texts -/
inductive ListsAt (G : Hp) : List Addr → List (List Str) → Prop
  | nil : ListsAt G [] []
  | cons {a : Addr} {ts : List Str} {as : List Addr} {r : List (List Str)} : G a = some (.lst (ts.map V.str)) → ListsAt G as r → ListsAt G (a :: as) (ts :: r)
theorem ListsAt.same {G G' : Hp} (s : Same G G') : ∀ {as : List Addr} {r : List (List Str)}, ListsAt G as r → ListsAt G' as r
  | _, _, .nil => .nil
  | _, _, .cons h t => .cons (s _ _ h) (ListsAt.same s t)
theorem ListsAt.snoc {G : Hp} {a : Addr} {ts : List Str} (h : G a = some (.lst (ts.map V.str))) : ∀ {as : List Addr} {r : List (List Str)}, ListsAt G as r → ListsAt G (as ++ [a]) (r ++ [ts])
  | _, _, .nil => .cons h .nil
  | _, _, .cons k t => .cons k (ListsAt.snoc h t)
theorem ListsAt.len {G : Hp} : ∀ {as : List Addr} {r : List (List Str)}, ListsAt G as r → as.length = r.length
  | _, _, .nil => rfl
  | _, _, .cons _ t => by rw [List.length_cons, List.length_cons, ListsAt.len t]
theorem ListsAt.at {G : Hp} : ∀ {as : List Addr} {r : List (List Str)} {i : Nat} {a : Addr}, ListsAt G as r → as[i]? = some a → ∃ ts, r[i]? = some ts ∧ G a = some (.lst (ts.map V.str))
  | _, _, 0, a, .cons h t, e => by
    cases e
    exact ⟨_, rfl, h⟩
  | _, _, i + 1, a, .cons h t, e => by
    have q := ListsAt.at (i := i) t e
    exact q
/-- the list of some lists of texts -/
def ListOf (G : Hp) (q : Addr) (r : List (List Str)) : Prop := ∃ as, G q = some (.lst (as.map V.ref)) ∧ ListsAt G as r
theorem ListOf.same {G G' : Hp} {q : Addr} {r : List (List Str)} (h : ListOf G q r) (s : Same G G') : ListOf G' q r := by
  obtain ⟨as, h1, h2⟩ := h
  exact ⟨as, s _ _ h1, h2.same s⟩
def spTold : Sp := fun vs G Q _ => ∃ (a : Addr) (r : List (List Str)), vs = [.ref a] ∧ ListOf G a r ∧ ruleSize r ≤ 1000000 ∧ ∀ G', Same G G' → Q (.str (ruleText r)) G'
section
variable {P : Program} {w : World} {K : PySem.W.Frag} {mg : Str → Option Value} {base : Heap}
theorem scTold : FnScope ["_law_sides_here", "_law_side"] ["_law_sides_here"] (defScope sTold) := ⟨rfl, rfl, rfl, by decide +kernel, rfl, by decide +kernel, by decide +kernel⟩
def rJoin (K : PySem.W.Frag) : V → List V → Hp → VK → Prop := fun x xs H Q => ∃ a p, ∃ ys : List Str, x = V.str a ∧ xs = [V.ref p] ∧ (SqL K H p (ys.map V.str) ∨ SqT K H p (ys.map V.str)) ∧ (ys.map (·.length)).sum + ys.length * a.length ≤ 16777216 ∧ Q (.str (Txt.join a ys)) H
theorem ok_told (D : DefIn K mg "_law_told" sTold) : Ok P w K mg base "_law_told" (defArgs sTold) ["_law_sides_here"] 1 spTold := by
  refine D.ok scTold (fun vs G Q E h => ?_) (fun _ _ _ _ _ _ us hl => match us, hl with | [_], _ => rfl) (fun f cdv A out t G vs Q E hr h => ?_)
  · obtain ⟨a, r, rfl, _⟩ := h
    rfl
  · obtain ⟨a, r, rfl, ⟨as, la, hs⟩, hz, k⟩ := h
    refine ⟨_, pss_one (ps_ret (pe_bm PySem.F.plainAttrs_str PySem.F.slot_str_join PySem.F.type_str_join mt_join pe_str (pa_cons (pe_lc (own := [("_law_side", 1)]) (tt := tYes) (te := tBM K "str" (rJoin K) (tC (.str blank)) (tCons (tVar 1) tNil)) rfl scTold.nd (pi_list (pv 0)) (blkOk_by (N := ["_law_sides_here", "_law_side"]) (sc := defScope sTold) (by decide +kernel)) (fun _ _ _ _ _ => pg_name (i := 1) scTold.nd rfl (by first | exact Or.inl rfl | exact Or.inr rfl)) (fun _ _ _ _ _ => pts_nil) (fun _ _ _ _ _ => (pe_bm PySem.F.plainAttrs_str PySem.F.slot_str_join PySem.F.type_str_join mt_join pe_str (pa_cons (pv 1) pa_nil)))) pa_nil))), ?_⟩
    have hlen := hs.len
    have hsl := size_len r
    refine ⟨rfl, _, rfl, a, rfl, ⟨_, SqL.of la⟩, fun D hD => ?_⟩
    refine lc_list (fun i G' => Same G G' ∧ G' D = some (.lst (((r.map (Txt.join blank)).take i).map V.str))) ⟨Same.new hD, upd_same⟩ (fun i G' _ ⟨sm, _⟩ => SqL.of (sm _ _ la)) ?_ ?_
    · rintro i v G1 hi ⟨sm, hl⟩
      obtain ⟨sa, hsi, rfl⟩ := map_at hi
      obtain ⟨ts, hti, hsa⟩ := hs.at hsi
      have hsz := size_side (List.mem_of_getElem? hti)
      have hi4 := (List.getElem?_eq_some_iff.mp hsi).1
      refine ⟨rfl, ?_⟩
      refine ⟨rfl, _, rfl, blank, sa, ts, rfl, rfl, .inl (SqL.of (sm _ _ hsa)), by show _ + _ * 1 ≤ 16777216; omega, ?_⟩
      refine ⟨_, hl, by rw [List.length_map, List.length_take]; exact big_line' (by omega), Same.fresh sm hD, ?_⟩
      rw [upd_same, take_get (by rw [List.getElem?_map, hti]; rfl), List.map_append]
      rfl
    · rintro G1 ⟨sm, hl⟩
      rw [List.length_map, hlen, List.take_of_length_le (by rw [List.length_map]; omega)] at hl
      have hst := size_text r
      refine ⟨eqs, D, r.map (Txt.join blank), rfl, rfl, .inl (SqL.of hl), ?_, k G1 sm⟩
      have : eqs.length = 3 := by decide +kernel
      rw [this, List.length_map]
      omega
end
end K08
set_option Elab.async false
set_option linter.all false
set_option maxRecDepth 100000
set_option maxHeartbeats 4000000
namespace K08
open PySem PySem.Spec PyProof.Rows L2 TL Qh
abbrev sSides : Stmt := top 27
def wordsM : List Str := [Str.ofString "a", Str.ofString "b", Str.ofString "dns", Str.ofString "domain", Str.ofString "name", Str.ofString "system", Str.ofString "abcdefghij", Str.ofString "zz", Str.ofString "same", Str.ofString "keep"]
def goodSide (ts : List Str) : Prop := 1 ≤ ts.length ∧ ts.length ≤ 4 ∧ ∀ y ∈ ts, y ∈ wordsM
theorem ListsAt.put {G : Hp} {D : Addr} {o : HO} : ∀ {as : List Addr} {r : List (List Str)}, (∀ a ∈ as, a ≠ D) → ListsAt G as r → ListsAt (L2.upd G D o) as r
  | _, _, _, .nil => .nil
  | _, _, ne, .cons h t => .cons (by rw [upd_ne (ne _ List.mem_cons_self)]; exact h) (ListsAt.put (fun a ha => ne a (List.mem_cons_of_mem _ ha)) t)
theorem ListsAt.kp {p : Addr} {G G' : Hp} (k : Kp p G G') : ∀ {as : List Addr} {r : List (List Str)}, (∀ a ∈ as, a ≠ p) → ListsAt G as r → ListsAt G' as r
  | _, _, _, .nil => .nil
  | _, _, ne, .cons h t => .cons (k _ _ (ne _ List.mem_cons_self) h) (ListsAt.kp k (fun a ha => ne a (List.mem_cons_of_mem _ ha)) t)
theorem ListsAt.some {G : Hp} : ∀ {as : List Addr} {r : List (List Str)}, ListsAt G as r → ∀ a ∈ as, G a ≠ none
  | _, _, .cons h t, a, ha => by
    rcases List.mem_cons.mp ha with rfl | ha
    · rw [h]
      exact fun z => nomatch z
    · exact ListsAt.some t a ha
def spSides : Sp := fun vs G Q _ => ∃ (p l : Addr) (c : Int), vs = [.ref p] ∧ Pen G p l c ∧ c ≤ 800000 ∧ ∀ (q : Addr) (r : List (List Str)) (G' : Hp), (∀ ts ∈ r, goodSide ts) → 2 ≤ r.length → r.length ≤ 4 → (∀ G2, Kp p G' G2 → ListOf G2 q r) → Kp p G G' → Pen G' p l (c + 24) → Q (.ref q) G'
section
variable {P : Program} {w : World} {K : PySem.W.Frag} {mg : Str → Option Value} {base : Heap}
theorem scSides : FnScope ["_law_pen_here", "_law_menu", "_law_sides_here", "_law_turn", "_law_k"] ["_law_pen_here"] (defScope sSides) := ⟨rfl, rfl, rfl, by decide +kernel, rfl, by decide +kernel, by decide +kernel⟩
theorem ok_sides (D : DefIn K mg "_law_sides" sSides) (B : Blt mg) (F__law_draw : Ok P w K mg base "_law_draw" (defArgs sDraw) ["_law_pen_here", "_law_many_here"] 1 spDraw)
    (F__law_pick : Ok P w K mg base "_law_pick" (defArgs sPick) ["_law_pen_here", "_law_some"] 2 (spPick K)) : Ok P w K mg base "_law_sides" (defArgs sSides) ["_law_pen_here"] 3 spSides := by
  refine D.ok scSides (fun vs G Q E h => ?_) (fun _ _ _ _ _ _ us hl => match us, hl with | [_], _ => rfl) (fun f cdv A out t G vs Q E hr h => ?_)
  · obtain ⟨p, l, c, rfl, _⟩ := h
    rfl
  · obtain ⟨p, l, c, rfl, P0, hc, k⟩ := h
    refine ⟨_, (pss_cons (ps_set (i := 1) scSides.nd rfl (by first | exact Or.inl rfl | exact Or.inr rfl) (pn_lst (pa_cons pe_str (pa_cons pe_str (pa_cons pe_str (pa_cons pe_str (pa_cons pe_str (pa_cons pe_str (pa_cons pe_str (pa_cons pe_str (pa_cons pe_str (pa_cons pe_str pa_nil))))))))))))
      (pss_cons (ps_set (i := 2) scSides.nd rfl (by first | exact Or.inl rfl | exact Or.inr rfl) (pn_lst pa_nil))
      (pss_cons (ps_for (passes_of rfl) rfl (pi_range1 (by rfl) B.n_range (pa_cons (pe_op op_add pe_int (pe_own F__law_draw (hr.mono (by decide)) takes0 (pa_cons (pv 0) (pa_cons pe_int pa_nil)))) pa_nil)) (pg_name (i := 3) scSides.nd rfl (by first | exact Or.inl rfl | exact Or.inr rfl))
        (pss_one (ps_expr (pe_bm PySem.F.plainAttrs_list PySem.F.slot_list_append PySem.F.type_list_append mt_append (pv 2) (pa_cons (pe_lc (own := [("_law_k", 4)]) (tt := tYes) rfl scSides.nd (pi_range1 (by rfl) B.n_range (pa_cons (pe_op op_add pe_int (pe_own F__law_draw (hr.mono (by decide)) takes0 (pa_cons (pv 0) (pa_cons pe_int pa_nil)))) pa_nil)) (blkOk_by (N := ["_law_pen_here", "_law_menu", "_law_sides_here", "_law_turn", "_law_k"]) (sc := defScope sSides) (by decide +kernel)) (fun _ _ _ _ _ => pg_name (i := 4) scSides.nd rfl (by first | exact Or.inl rfl | exact Or.inr rfl)) (fun _ _ _ _ _ => pts_nil) (fun _ _ _ _ _ => (pe_own F__law_pick (hr.mono (by decide)) takes0 (pa_cons (pv 0) (pa_cons (pv 1) pa_nil))))) pa_nil)))))
      (pss_one (ps_ret (pv 2)))))), ?_⟩
    refine ⟨by show 10 ≤ sizeLine; decide, fun m G1 n1 s1 l1 => ?_⟩
    refine ⟨by show 0 ≤ sizeLine; decide, fun q G2 n2 s2 l2 => ?_⟩
    have P1 := P0.same s1
    have P2 := P1.same s2
    have mp := P0.ne n1
    have qp := P1.ne n2
    have ql := P1.nel n2
    have qG : G q = none := s1.free n2
    have mq : m ≠ q := ne_of_none l1 n2
    refine ⟨_, rfl, p, l, c, 3, rfl, P2, by omega, by decide, by decide, fun n G3 d0 d1 kp3 P3 => ?_⟩
    refine ⟨_, _, rfl, rfl, 2 + n, rfl, by omega, by omega, ?_⟩
    have l1' : G1 m = some (.lst (wordsM.map V.str)) := l1
    refine for_range (fun i σ' G' => ∃ (o3 : Option V) (as : List Addr) (r : List (List Str)), σ' = [some (.ref p), some (.ref m), some (.ref q), o3, none] ∧ Kp p G G' ∧ G' m = some (.lst (wordsM.map V.str)) ∧ G' q = some (.lst (as.map V.ref)) ∧ ListsAt G' as r ∧ (∀ a ∈ as, a ≠ p) ∧ (∀ ts ∈ r, goodSide ts) ∧ r.length = i ∧ Pen G' p l (c + 1 + 5 * i))
      ⟨none, [], [], rfl, ((Kp.same s1).trans (Kp.same s2)).trans kp3, kp3 _ _ mp (s2 _ _ l1'), kp3 _ _ qp l2, .nil, (fun a h => nomatch h), (fun a h => nomatch h), rfl, P3.mono (by omega)⟩ ?_ ?_
    · rintro i σ1 G4 hi ⟨o3, as, r, rfl, kpA, hm, hq, hs, hap, hg, hlen, P4⟩
      have hi5 : i < 5 := by omega
      refine ⟨_, rfl, .inl ⟨rfl, _, SqL.of hq⟩, ?_⟩
      refine ⟨_, rfl, p, l, _, 4, rfl, P4, by omega, by decide, by decide, fun n2 G5 e0 e1 kp5 P5 => ?_⟩
      refine ⟨_, _, rfl, rfl, 1 + n2, rfl, by omega, by omega, fun D hD => ?_⟩
      have Dp := P5.ne hD
      have Dl := P5.nel hD
      have hm5 := kp5 _ _ mp hm
      have hq5 := kp5 _ _ qp hq
      have hs5 := ListsAt.kp kp5 hap hs
      have Dq : q ≠ D := ne_of_none hq5 hD
      have Dm : m ≠ D := ne_of_none hm5 hD
      have aD : ∀ a ∈ as, a ≠ D := fun a ha z => hs5.some a ha (z ▸ hD)
      have aq : ∀ a ∈ as, a ≠ q := fun a ha z => by
        obtain ⟨j, hj⟩ := List.getElem?_of_mem ha
        obtain ⟨ts, hti, hsa⟩ := hs5.at hj
        obtain ⟨g1, _⟩ := hg ts (List.mem_of_getElem? hti)
        rw [z, hq5] at hsa
        cases as with
        | nil => cases ha
        | cons a0 r0 =>
          cases ts with
          | nil => exact absurd g1 (by decide)
          | cons y0 t0 =>
            injection hsa with hsa
            injection hsa with hsa
            injection hsa with hsa
            cases hsa
      refine lc_range (fun j G' => ∃ ts : List Str, G' D = some (.lst (ts.map V.str)) ∧ ts.length = j ∧ (∀ y ∈ ts, y ∈ wordsM) ∧ Kp p G5 G' ∧ Pen G' p l (c + 1 + 5 * i + 1 + j)) ⟨[], upd_same, rfl, (fun y h => nomatch h), Kp.new hD, (P5.new hD).mono (by omega)⟩ ?_ ?_
      · rintro j G6 hj ⟨ts, hl, hn, hw, kp6, P6⟩
        have hj4 : j < 4 := by omega
        refine ⟨rfl, ?_⟩
        refine ⟨_, rfl, _, rfl, p, l, m, _, _, rfl, P6, by omega, mp, SqL.of (kp6 _ _ mp hm5), by show 0 < 10; decide, by show 10 ≤ 1000000; decide, fun v G7 hv kp7 P7 => ?_⟩
        obtain ⟨y, hy, rfl⟩ := List.mem_map.mp hv
        have hl7 := kp7 D _ Dp hl
        refine ⟨_, hl7, by rw [List.length_map]; exact big_line' (by omega), ts ++ [y], ?_, by simp [hn], fun z hz => ?_, (kp6.trans kp7).fresh hD, (P7.upd Dp Dl).mono (by omega)⟩
        · rw [upd_same, List.map_append]
          rfl
        · rcases List.mem_append.mp hz with hz | hz
          · exact hw z hz
          · rw [List.mem_singleton.mp hz]
            exact hy
      · rintro G6 ⟨ts, hl, hn, hw, kp6, P6⟩
        have hasl := hs.len
        refine ⟨q, as.map V.ref, .ref D, rfl, rfl, kp6 _ _ qp hq5, by rw [List.length_map]; exact big_line' (by omega), ?_⟩
        refine ⟨_, as ++ [D], r ++ [ts], rfl, (kpA.trans (kp5.trans kp6)).fresh qG, ?_, ?_, ?_, fun a ha => ?_, fun us hu => ?_, by simp [hlen], (P6.upd qp ql).mono (by omega)⟩
        · rw [upd_ne mq]
          exact kp6 _ _ mp hm5
        · rw [upd_same, List.map_append]
          rfl
        · refine ListsAt.put (fun a ha => ?_) (ListsAt.snoc hl (ListsAt.kp kp6 hap hs5))
          rcases List.mem_append.mp ha with ha | ha
          · exact aq a ha
          · rw [List.mem_singleton.mp ha]
            exact Dq.symm
        · rcases List.mem_append.mp ha with ha | ha
          · exact hap a ha
          · rw [List.mem_singleton.mp ha]
            exact Dp
        · rcases List.mem_append.mp hu with hu | hu
          · exact hg us hu
          · rw [List.mem_singleton.mp hu]
            exact ⟨by omega, by omega, hw⟩
    · rintro σ1 G4 ⟨o3, as, r, rfl, kpA, hm, hq, hs, hap, hg, hlen, P4⟩
      have h2 : r.length = (2 + n).toNat := hlen
      exact ⟨_, rfl, k q r G4 hg (by omega) (by omega) (fun G2 k2 => ⟨as, k2 _ _ qp hq, hs.kp k2 hap⟩) kpA (P4.mono (by omega))⟩
end
end K08
set_option Elab.async false
set_option linter.all false
set_option maxRecDepth 100000
set_option maxHeartbeats 4000000
/-! A rule read by ' = ' and then by blanks, or by blanks and then by =: the same. -/
namespace K08
open PySem PySem.Spec PyProof.Rows L2 TL Qh
abbrev S3 : List Nat := [32, 61, 32]
def tailJ : List (List Nat) → List Nat
  | [] => []
  | p :: r => 32 :: joinL [32] (p :: r)
theorem join_cons (p : List Nat) (r : List (List Nat)) : joinL [32] (p :: r) = p ++ tailJ r := by
  cases r with
  | nil => simp [joinL, tailJ]
  | cons q r => rfl
theorem join_snoc (p : List Nat) : ∀ cur : List (List Nat), cur ≠ [] → joinL [32] (cur ++ [p]) = joinL [32] cur ++ (32 :: p)
  | [], h => absurd rfl h
  | [a], _ => rfl
  | a :: b :: r, _ => by
    have ih := join_snoc p (b :: r) (fun z => nomatch z)
    show a ++ ([32] ++ joinL [32] ((b :: r) ++ [p])) = (a ++ ([32] ++ joinL [32] (b :: r))) ++ (32 :: p)
    rw [ih]
    simp
theorem walk3 : ∀ (p acc l : List Nat), 32 ∉ p → spl S3 0 acc (p ++ l) = spl S3 0 (acc ++ p) l
  | [], acc, l, _ => by simp
  | c :: p, acc, l, h => by
    have hc : c ≠ 32 := fun z => h (z ▸ List.mem_cons_self)
    have miss : pre S3 (c :: (p ++ l)) = false := by
      unfold pre
      rw [beq_eq_false_iff_ne]
      intro z
      have z : c :: (p ++ l).take 2 = [32, 61, 32] := z
      injection z with z _
      exact hc z
    show spl S3 0 acc (c :: (p ++ l)) = _
    rw [spl_miss miss, walk3 p (acc ++ [c]) l (fun z => h (List.mem_cons_of_mem _ z))]
    simp
def sides3 : List (List Nat) → List (List Nat) → List (List (List Nat))
  | cur, [] => [cur]
  | cur, p :: r => if p = [61] ∧ cur ≠ [] ∧ r ≠ [] then cur :: sides3 [] r else sides3 (cur ++ [p]) r
theorem no_hit {p : List Nat} {r : List (List Nat)} (h : 32 ∉ p) (n : ¬ (p = [61] ∧ r ≠ [])) : pre S3 (32 :: (p ++ tailJ r)) = false := by
  unfold pre
  rw [beq_eq_false_iff_ne]
  intro z
  have z : 32 :: (p ++ tailJ r).take 2 = [32, 61, 32] := z
  injection z with _ z
  match p, h, n, z with
  | [], _, _, z =>
    cases r with
    | nil => cases z
    | cons q r =>
      have z : (32 :: joinL [32] (q :: r)).take 2 = [61, 32] := z
      injection z with z _
      cases z
  | [a], h, n, z =>
    have z : a :: (tailJ r).take 1 = [61, 32] := z
    injection z with z1 z2
    subst z1
    refine n ⟨rfl, fun e => ?_⟩
    subst e
    cases z2
  | a :: b :: t, h, _, z =>
    have z : a :: b :: (t ++ tailJ r).take 0 = [61, 32] := z
    injection z with _ z
    injection z with z _
    exact h (by rw [z]; simp)
theorem spl_sides : ∀ (n : Nat) (rest cur : List (List Nat)), rest.length ≤ n → cur ≠ [] → (∀ p ∈ cur, 32 ∉ p) → (∀ p ∈ rest, 32 ∉ p) → (spl S3 0 (joinL [32] cur) (tailJ rest)).map (spl [32] 0 []) = sides3 cur rest
  | _, [], cur, _, hne, hc, _ => by
    show (spl S3 0 (joinL [32] cur) []).map (spl [32] 0 []) = [cur]
    rw [spl_nil, List.map_singleton, spl_join hne hc]
  | 0, _ :: _, _, hl, _, _, _ => absurd hl (by simp)
  | n + 1, p :: r, cur, hl, hne, hc, hr => by
    have hp := hr p List.mem_cons_self
    have hr2 : ∀ q ∈ r, 32 ∉ q := fun q hq => hr q (List.mem_cons_of_mem _ hq)
    have hl2 : r.length ≤ n := by
      simp only [List.length_cons] at hl
      omega
    show (spl S3 0 (joinL [32] cur) (32 :: joinL [32] (p :: r))).map (spl [32] 0 []) = _
    rw [join_cons]
    by_cases c : p = [61] ∧ r ≠ []
    · obtain ⟨rfl, hrn⟩ := c
      cases r with
      | nil => exact absurd rfl hrn
      | cons q r2 =>
        have hq := hr2 q List.mem_cons_self
        have hit : pre S3 (32 :: ([61] ++ tailJ (q :: r2))) = true := rfl
        rw [spl_hit hit, List.map_cons, spl_join hne hc, spl_pass]
        show cur :: (spl S3 0 [] (joinL [32] (q :: r2))).map (spl [32] 0 []) = _
        rw [join_cons, walk3 q [] _ hq, List.nil_append]
        have ih := spl_sides n r2 [q] (by simp only [List.length_cons] at hl2; omega) (fun z => nomatch z) (fun z hz => by rw [List.mem_singleton.mp hz]; exact hq) (fun z hz => hr2 z (List.mem_cons_of_mem _ hz))
        have ih : (spl S3 0 q (tailJ r2)).map (spl [32] 0 []) = sides3 [q] r2 := ih
        rw [ih]
        have e1 : sides3 cur ([61] :: q :: r2) = cur :: sides3 [] (q :: r2) := by
          show (if ([61] : List Nat) = [61] ∧ cur ≠ [] ∧ (q :: r2) ≠ [] then _ else _) = _
          rw [if_pos ⟨rfl, hne, fun z => nomatch z⟩]
        have e2 : sides3 [] (q :: r2) = sides3 [q] r2 := by
          show (if q = [61] ∧ ([] : List (List Nat)) ≠ [] ∧ r2 ≠ [] then _ else _) = _
          rw [if_neg fun z => z.2.1 rfl]
          rfl
        rw [e1, e2]
    · rw [spl_miss (no_hit hp c), walk3 p _ _ hp]
      have ea : joinL [32] cur ++ [32] ++ p = joinL [32] (cur ++ [p]) := by
        rw [join_snoc p cur hne]
        simp
      rw [ea, spl_sides n r (cur ++ [p]) hl2 (by simp) (fun z hz => by
        rcases List.mem_append.mp hz with hz | hz
        · exact hc z hz
        · rw [List.mem_singleton.mp hz]
          exact hp) hr2]
      show _ = (if p = [61] ∧ cur ≠ [] ∧ r ≠ [] then _ else _)
      rw [if_neg fun z => c ⟨z.1, z.2.2⟩]
theorem join_parts : ∀ (l acc : List Nat), joinL [32] (spl [32] 0 acc l) = acc ++ l
  | [], acc => by rw [spl_nil, List.append_nil]; rfl
  | c :: r, acc => by
    by_cases h : pre [32] (c :: r) = true
    · have hc : c = 32 := by
        unfold pre at h
        have h := beq_iff_eq.mp h
        injection h
      rw [spl_hit h]
      have ih := join_parts r []
      have ne : spl [32] 0 [] r ≠ [] := by
        intro z
        rw [z] at ih
        have h2 := (spl_len [32] r 0 []).2
        cases r with
        | nil =>
          rw [spl_nil] at z
          cases z
        | cons a b => cases ih
      show joinL [32] (acc :: spl [32] 0 [] r) = _
      rw [join_cons]
      cases hs : spl [32] 0 [] r with
      | nil => exact absurd hs ne
      | cons a b =>
        rw [hs] at ih
        show acc ++ (32 :: joinL [32] (a :: b)) = _
        rw [ih, hc]
        rfl
    · rw [spl_miss (by simpa using h), join_parts r (acc ++ [c])]
      simp
theorem parts_no : ∀ (l acc : List Nat), 32 ∉ acc → ∀ p ∈ spl [32] 0 acc l, 32 ∉ p
  | [], acc, ha, p, hp => by
    rw [spl_nil] at hp
    rw [List.mem_singleton.mp hp]
    exact ha
  | c :: r, acc, ha, p, hp => by
    by_cases h : pre [32] (c :: r) = true
    · rw [spl_hit h] at hp
      rcases List.mem_cons.mp hp with rfl | hp
      · exact ha
      · exact parts_no r [] (fun z => nomatch z) p hp
    · rw [spl_miss (by simpa using h)] at hp
      refine parts_no r (acc ++ [c]) (fun z => ?_) p hp
      rcases List.mem_append.mp z with z | z
      · exact ha z
      · refine h ?_
        rw [← List.mem_singleton.mp z]
        rfl
/-- by ' = ' and then by blanks -/
theorem sides_spl (x : Str) : (sidesOf x).map (fun ts => ts.map tl) = sides3 [] ((partsOf x).map tl) := by
  have te : tl eqs = S3 := by decide +kernel
  have ke : eqs.cps.all (· < 256) = true := by decide +kernel
  have h1 : (Txt.split x eqs).map tl = spl S3 0 [] (tl x) := by
    have h := split_spl x eqs (by rw [te]; simp) (kind_ok ke)
    rw [te] at h
    exact h
  have h2 : (sidesOf x).map (fun ts => ts.map tl) = (spl S3 0 [] (tl x)).map (spl [32] 0 []) := by
    rw [← h1]
    unfold sidesOf
    rw [List.map_map, List.map_map]
    exact List.map_congr_left fun y _ => parts_spl y
  have h3 := parts_spl x
  have h4 := join_parts (tl x) []
  have h5 := parts_no (tl x) [] (fun z => nomatch z)
  rw [← h3, List.nil_append] at h4
  rw [← h3] at h5
  rw [h2]
  generalize hps : (partsOf x).map tl = ps at h4 h5
  cases ps with
  | nil =>
    have e : tl x = [] := h4.symm
    rw [hps, e, spl_nil] at h3
    cases h3
  | cons p r =>
    have hp := h5 p List.mem_cons_self
    rw [← h4, join_cons, walk3 p [] _ hp, List.nil_append]
    have q := spl_sides r.length r [p] (Nat.le_refl _) (fun z => nomatch z) (fun z hz => by rw [List.mem_singleton.mp hz]; exact hp) (fun z hz => h5 z (List.mem_cons_of_mem _ hz))
    have q : (spl S3 0 p (tailJ r)).map (spl [32] 0 []) = sides3 [p] r := q
    rw [q]
    show _ = (if p = [61] ∧ ([] : List (List Nat)) ≠ [] ∧ r ≠ [] then _ else _)
    rw [if_neg fun z => z.2.1 rfl]
    rfl
/-- by blanks and then by = -/
def groupS : List (List Nat) → List (List Nat) → List (List (List Nat))
  | cur, [] => [cur]
  | cur, p :: r => if p = [61] then cur :: groupS [] r else groupS (cur ++ [p]) r
theorem sides_head : ∀ (r cur : List (List Nat)), ∃ s t, sides3 cur r = (cur ++ s) :: t
  | [], cur => ⟨[], [], by simp [sides3]⟩
  | p :: r, cur => by
    by_cases c : p = [61] ∧ cur ≠ [] ∧ r ≠ []
    · refine ⟨[], sides3 [] r, ?_⟩
      show (if p = [61] ∧ cur ≠ [] ∧ r ≠ [] then _ else _) = _
      rw [if_pos c, List.append_nil]
    · obtain ⟨s, t, h⟩ := sides_head r (cur ++ [p])
      refine ⟨[p] ++ s, t, ?_⟩
      show (if p = [61] ∧ cur ≠ [] ∧ r ≠ [] then _ else _) = _
      rw [if_neg c, h, List.append_assoc]
/-- where no side has a =, both ways tell the same -/
theorem same_of_sides : ∀ (r cur : List (List Nat)), (∀ s ∈ sides3 cur r, [61] ∉ s) → sides3 cur r = groupS cur r
  | [], _, _ => rfl
  | p :: r, cur, h => by
    by_cases c : p = [61] ∧ cur ≠ [] ∧ r ≠ []
    · have e : sides3 cur (p :: r) = cur :: sides3 [] r := by
        show (if p = [61] ∧ cur ≠ [] ∧ r ≠ [] then _ else _) = _
        rw [if_pos c]
      have g : groupS cur (p :: r) = cur :: groupS [] r := by
        show (if p = [61] then _ else _) = _
        rw [if_pos c.1]
      rw [e] at h ⊢
      rw [g, same_of_sides r [] fun s hs => h s (List.mem_cons_of_mem _ hs)]
    · have e : sides3 cur (p :: r) = sides3 (cur ++ [p]) r := by
        show (if p = [61] ∧ cur ≠ [] ∧ r ≠ [] then _ else _) = _
        rw [if_neg c]
      rw [e] at h ⊢
      have hp : p ≠ [61] := fun z => by
        obtain ⟨s, t, q⟩ := sides_head r (cur ++ [p])
        rw [q] at h
        exact h _ List.mem_cons_self (by rw [z]; simp)
      have g : groupS cur (p :: r) = groupS (cur ++ [p]) r := by
        show (if p = [61] then _ else _) = _
        rw [if_neg hp]
      rw [g, same_of_sides r (cur ++ [p]) h]
/-- .. and where no group is empty -/
theorem same_of_groups : ∀ (r cur : List (List Nat)), (∀ s ∈ groupS cur r, s ≠ []) → sides3 cur r = groupS cur r
  | [], _, _ => rfl
  | p :: r, cur, h => by
    by_cases hp : p = [61]
    · have g : groupS cur (p :: r) = cur :: groupS [] r := by
        show (if p = [61] then _ else _) = _
        rw [if_pos hp]
      rw [g] at h ⊢
      have hc : cur ≠ [] := h _ List.mem_cons_self
      have hr : r ≠ [] := fun z => by
        subst z
        exact h [] (List.mem_cons_of_mem _ List.mem_cons_self) rfl
      show (if p = [61] ∧ cur ≠ [] ∧ r ≠ [] then _ else _) = _
      rw [if_pos ⟨hp, hc, hr⟩, same_of_groups r [] fun s hs => h s (List.mem_cons_of_mem _ hs)]
    · have g : groupS cur (p :: r) = groupS (cur ++ [p]) r := by
        show (if p = [61] then _ else _) = _
        rw [if_neg hp]
      rw [g] at h ⊢
      show (if p = [61] ∧ cur ≠ [] ∧ r ≠ [] then _ else _) = _
      rw [if_neg fun z => hp z.1, same_of_groups r (cur ++ [p]) h]
end K08
set_option Elab.async false
set_option linter.all false
set_option maxRecDepth 100000
set_option maxHeartbeats 4000000
namespace K08
open PySem PySem.Spec PyProof.Rows L2 TL Qh
abbrev sLawIsWord : Stmt := top 30
def spWordT : Sp := fun vs G Q _ => ∃ (x : Str), vs = [.str x] ∧ x.length ≤ 1000000 ∧ txt x = true ∧ ∀ G', Same G G' → Q (.bl (wordS x)) G'
section
variable {P : Program} {w : World} {K : PySem.W.Frag} {mg : Str → Option Value} {base : Heap}
theorem abc : (Str.ofString "abcdefghijklmnopqrstuvwxyz").cps.toList = List.range' 97 26 := by decide +kernel
theorem abc_in (c : Nat) : decide (c ∈ (Str.ofString "abcdefghijklmnopqrstuvwxyz").cps.toList) = ltr c := by
  have h : c ∈ (Str.ofString "abcdefghijklmnopqrstuvwxyz").cps.toList ↔ 97 ≤ c ∧ c ≤ 122 := by
    rw [abc, List.mem_range'_1]
    omega
  unfold ltr
  by_cases h1 : 97 ≤ c ∧ c ≤ 122
  · rw [decide_eq_true (h.mpr h1), decide_eq_true h1.1, decide_eq_true h1.2]
    rfl
  · rw [decide_eq_false fun z => h1 (h.mp z)]
    by_cases h2 : 97 ≤ c
    · rw [decide_eq_true h2, decide_eq_false fun z => h1 ⟨h2, z⟩]
      rfl
    · rw [decide_eq_false h2]
      rfl
theorem none_left {β : Type} {p : Nat → Bool} {f : Nat → β} (l : List Nat) : decide ((l.filter fun c => !p c).map f = []) = l.all p := by
  induction l with
  | nil => rfl
  | cons a r ih =>
    cases h : p a with
    | true =>
      rw [List.filter_cons, h, List.all_cons, h]
      exact ih
    | false =>
      rw [List.filter_cons, h, List.all_cons, h]
      rfl
theorem scLawIsWord : FnScope ["_law_term", "_law_sign"] ["_law_term"] (defScope sLawIsWord) := ⟨rfl, rfl, rfl, by decide +kernel, rfl, by decide +kernel, by decide +kernel⟩
theorem ok_lawIsWord (D : DefIn K mg "_law_is_word" sLawIsWord) (B : Blt mg) : Ok P w K mg base "_law_is_word" (defArgs sLawIsWord) ["_law_term"] 1 spWordT := by
  refine D.ok scLawIsWord (fun vs G Q E h => ?_) (fun _ _ _ _ _ _ us hl => match us, hl with | [_], _ => rfl) (fun f cdv A out t G vs Q E hr h => ?_)
  · obtain ⟨x, rfl, _⟩ := h
    rfl
  · obtain ⟨x, rfl, hx, htx, k⟩ := h
    have hu64 := hr.units
    refine ⟨_, (pss_one (ps_ret (pe_and (pe_chain op_le op_le pe_int (pe_callB call_len (by rfl) B.n_len bt_len (pa_cons (pv 0) pa_nil)) pe_int) (pe_one (pe_cmpR (op_eqD hu64) (pe_lc (own := [("_law_sign", 1)]) (tt := _) rfl scLawIsWord.nd (pi_str (pv 0)) (blkOk_by (N := ["_law_term", "_law_sign"]) (sc := defScope sLawIsWord) (by decide +kernel)) (fun _ _ _ _ _ => pg_name (i := 1) scLawIsWord.nd rfl (by first | exact Or.inl rfl | exact Or.inr rfl)) (fun _ _ _ _ _ => pts_one (pt_cmpR op_notInS (pv 1) pe_str (by rfl))) (fun _ _ _ _ _ => (pv 1))) (pe_lst pa_nil) (nomark _)))))), ?_⟩
    refine ⟨_, rfl, .str x, x.length, rfl, ⟨big_line hx, rfl⟩, _, _, rfl, rfl, _, rfl, ?_⟩
    refine ite2 (fun h1 => ?_) (fun h1 => ?_)
    · refine ⟨_, _, rfl, rfl, _, rfl, ?_⟩
      refine ite2 (fun h2 => ?_) (fun h2 => ?_)
      · refine ⟨_, rfl, x, rfl, fun D hD => ?_⟩
        refine lc_it walk_str (fun i G' => Same G G' ∧ G' D = some (.lst ((((tl x).take i).filter fun c => !ltr c).map fun c => V.str ⟨#[c]⟩))) ⟨Same.new hD, by rw [upd_same]; rfl⟩ (fun _ _ _ _ => trivial) ?_ ?_
        · rintro i y G1 G2 hi ⟨sm, hl⟩ ⟨rfl, c, hc, rfl⟩
          have hc' : (tl x)[i]? = some c := by
            rw [← hc]
            simp
          refine ⟨rfl, ?_⟩
          refine ⟨_, rfl, c, _, rfl, rfl, _, rfl, ?_⟩
          rw [abc_in]
          have et := take_get hc'
          cases e : ltr c with
          | true =>
            refine ⟨sm, ?_⟩
            rw [hl, et, List.filter_append, List.filter_cons, e]
            show some (HO.lst (List.map _ _)) = some (HO.lst (List.map _ (_ ++ [])))
            rw [List.append_nil]
          | false =>
            refine ⟨_, rfl, _, hl, ?_, Same.fresh sm hD, ?_⟩
            · rw [List.length_map]
              have h1 := List.length_filter_le (fun c => !ltr c) ((tl x).take i)
              rw [List.length_take, ← len_tl] at h1
              exact big_line' (by omega)
            · rw [upd_same, et, List.filter_append, List.filter_cons, e, List.map_append]
              rfl
        · rintro G' ⟨sm, hl⟩
          rw [List.take_of_length_le (Nat.le_of_eq (by simp))] at hl
          refine ⟨by show 0 ≤ sizeLine; decide, fun q hq => ?_⟩
          have hl' : (L2.upd G' q (.lst [])) D = some (.lst (((tl x).filter fun c => !ltr c).map fun c => V.str ⟨#[c]⟩)) := by
            rw [upd_ne (ne_of_none hl hq)]
            exact hl
          have ev : ((tl x).filter fun c => !ltr c).map (fun c => V.str ⟨#[c]⟩) = (((tl x).filter fun c => !ltr c).map fun c => (⟨#[c]⟩ : Str)).map V.str := by
            rw [List.map_map]
            rfl
          rw [ev] at hl'
          refine ⟨_, .list [], .lst (SqL.of hl') (dp_strs _), .lst (SqL.of upd_same) .nil, shaped_strsL _ (fun y hy => ?_), rfl, ?_⟩
          · obtain ⟨c, hc, rfl⟩ := List.mem_map.mp hy
            have hcx := (List.mem_filter.mp hc).1
            have ht := htx
            unfold txt at ht ⊢
            rw [← Array.all_toList, List.all_eq_true] at ht
            have := ht c hcx
            simpa using this
          · rw [eqv_nil_r, List.map_map, none_left]
            have h := k _ (sm.trans (Same.new (o := HO.lst []) hq))
            have e : wordS x = (tl x).all ltr := by
              unfold wordS lettersS
              rw [h1, h2]
              rfl
            rw [e] at h
            exact h
      · have e : wordS x = false := by
          unfold wordS lettersS
          rw [Bool.eq_false_iff.mpr h2, Bool.and_false, Bool.false_and]
        have h := k G (Same.refl G)
        rw [e] at h
        exact h
    · have e : wordS x = false := by
        unfold wordS lettersS
        rw [Bool.eq_false_iff.mpr h1, Bool.false_and, Bool.false_and]
      have h := k G (Same.refl G)
      rw [e] at h
      exact ⟨_, rfl, iteF h⟩
end
end K08
set_option Elab.async false
set_option linter.all false
set_option maxRecDepth 100000
set_option maxHeartbeats 4000000
namespace K08
open PySem PySem.Spec PyProof.Rows L2 TL Qh Qi ClX
section
variable {X : Cx} {W : WX} {k : Nat} {f C : Addr} {sp : Sp} {x pk : Str} {kws : List Keyword} {tkw : TA} {p pos : Pos}
/-- C(pk = v) -/
theorem pe_makeSK0 (M : Mk X.K C f) (F : FnRK X.prog X.w X.K X.mg X.base (L2.CX X.prog X.w) k f pk sp) (hr : Room (k + 1) X.A) (tk : Takes X W) (hm : X.mg x = some (.ref C)) (hkw : PK X kws tkw) (hg : Gl X x := by rfl) (hdb : (x == ("__debug__" : Str)) = false := by decide)
    (hall : (backToKw pos (keywordEach kws X.env)).all (·.1.isSome) = true := by rfl) (hks : (backToKw pos (keywordEach kws X.env)).filterMap (·.1) = [pk] := by rfl)
    (hpl : ((backTo pos (starEach [] X.env)).any (·.1) || (backToKw pos (keywordEach kws X.env)).any (·.1.isNone)) = false := by rfl) :
    PE X (.Call (.Name x p) [] kws pos) (tMakeSK C sp (WE W) tNil tkw) := by
  constructor
  intro pins s σ H Q I h
  refine wpAny_Call_Name_kw (ld_glob I hg hm ?_ hdb)
  refine PySem.W.callWith_KW0 (h₀ := X.base) I.ok.mod.kin M.kp hall ?_ hpl
  refine thn (hkw.run pos pins s σ H _ I h) ?_
  rintro ws s2 ⟨zs, H2, I2, rz, z, rfl, q2⟩
  refine ⟨I2.kIn, ?_⟩
  rw [hks]
  cases rz with
  | cons r1 r2 =>
    cases r2
    exact run_makeSK (us := []) (vs := []) M F hr (fun H3 s3 er s' J c => passAt tk σ pins H3 s3 er s' J c) I2 .nil r1 q2
end
/-- what is wished of Same(*xs, keep=kv) -/
structure Made (K : PySem.W.Frag) (C CE : Addr) (xs : List V) (kv : V) (H : Hp) (Q : VK) (E : XK) : Prop where
  hk : ∀ v ∈ xs, ∀ G', Same H G' → Known K G' v
  hn : xs.length ≤ 100000
  hkv : ∀ G', Same H G' → KeepV K G' kv
  kA : (decide ((1 : Int) ≤ (xs.length : Int)) && decide ((xs.length : Int) ≤ 8)) = false → ∀ d G', ErrStep H G' d "rules" .non → E (.ref CE) (some d) G'
  kB : (decide ((1 : Int) ≤ (xs.length : Int)) && decide ((xs.length : Int) ≤ 8)) = true → ∀ i : Nat, (xs.map ruleV)[i]? = some none → (∀ j o, j < i → (xs.map ruleV)[j]? = some o → o ≠ none) → ∀ d G', ErrStep H G' d "rule" (.int (i : Int)) → E (.ref CE) (some d) G'
  kC : (decide ((1 : Int) ≤ (xs.length : Int)) && decide ((xs.length : Int) ≤ 8)) = true → (∀ o ∈ xs.map ruleV, o ≠ none) → (∀ b, kv ≠ .bl b) → ∀ d G', ErrStep H G' d "keep" .non → E (.ref CE) (some d) G'
  kD : (decide ((1 : Int) ≤ (xs.length : Int)) && decide ((xs.length : Int) ≤ 8)) = true → (∀ o ∈ xs.map ruleV, o ≠ none) → ∀ b, kv = .bl b → ∀ (x dx D : Addr) (vs : List V) G', H x = none → Same H G' → G' x = some (.ins C dx [("rules", .ref D), ("keep", .bl b)]) → G' D = some (.tup vs) → RVs G' vs (xs.map ruleV) → Q (.ref x) G'
theorem Made.want {K : PySem.W.Frag} {C CE : Addr} {xs : List V} {kv : V} {H : Hp} {Q : VK} {E : XK} (m : Made K C CE xs kv H Q E) (x dx : Addr) (hx : H x = none) (hdx : H dx = none) (ne : dx ≠ x) :
    spInitK K C CE (V.ref x :: xs ++ [kv]) (L2.upd (L2.upd H dx (.own x)) x (.ins C dx [])) (fun v H2 => v = .non ∧ Q (.ref x) H2) E :=
  make_want m.hk m.hn m.hkv m.kA m.kB m.kC m.kD x dx hx hdx ne
abbrev sFew : Stmt := top 24
def spFew (K : PySem.W.Frag) (C CE : Addr) : Sp := fun vs G Q E => ∃ (a : Addr) (xs : List V) (kv : V), vs = [.ref a, kv] ∧ SqL K G a xs ∧ xs.length ≤ 4 ∧ Made K C CE xs kv G Q E
section
variable {P : Program} {w : World} {K : PySem.W.Frag} {mg : Str → Option Value} {base : Heap}
theorem scFew : FnScope ["_law_some", "_law_held"] ["_law_some", "_law_held"] (defScope sFew) := ⟨rfl, rfl, rfl, by decide +kernel, rfl, by decide +kernel, by decide +kernel⟩
theorem ok_few {C CE fI : Addr} (D : DefIn K mg "_law_few" sFew) (B : Blt mg) (g : mg "Same" = some (.ref C)) (M : Mk K C fI) (F : FnRK P w K mg base (L2.CX P w) 5 fI "keep" (spInitK K C CE)) :
    Ok P w K mg base "_law_few" (defArgs sFew) ["_law_some", "_law_held"] 7 (spFew K C CE) := by
  refine D.ok scFew (fun vs G Q E h => ?_) (fun _ _ _ _ _ _ us hl => match us, hl with | [_, _], _ => rfl) (fun f cdv A out t G vs Q E hr h => ?_)
  · obtain ⟨a, xs, kv, rfl, _⟩ := h
    rfl
  · obtain ⟨a, xs, kv, rfl, hS, hn, m⟩ := h
    refine ⟨_, (pss_cons (ps_if (pt_cmpR op_eq (pe_callB call_len (by rfl) B.n_len bt_len (pa_cons (pv 0) pa_nil)) pe_int (nomark _)) (pss_one (ps_ret (pe_makeSK0 M F hr (takes_of rfl rfl rfl rfl) g (pk_cons (pv 1) pk_nil)))) pss_nil)
      (pss_cons (ps_if (pt_cmpR op_eq (pe_callB call_len (by rfl) B.n_len bt_len (pa_cons (pv 0) pa_nil)) pe_int (nomark _)) (pss_one (ps_ret (pe_makeSK M F hr (takes_of rfl rfl rfl rfl) g (pa_cons (pe_ix ix_list (pv 0) pe_int (fun _ _ => rfl)) pa_nil) (pk_cons (pv 1) pk_nil)))) pss_nil)
      (pss_cons (ps_if (pt_cmpR op_eq (pe_callB call_len (by rfl) B.n_len bt_len (pa_cons (pv 0) pa_nil)) pe_int (nomark _)) (pss_one (ps_ret (pe_makeSK M F hr (takes_of rfl rfl rfl rfl) g (pa_cons (pe_ix ix_list (pv 0) pe_int (fun _ _ => rfl)) (pa_cons (pe_ix ix_list (pv 0) pe_int (fun _ _ => rfl)) pa_nil)) (pk_cons (pv 1) pk_nil)))) pss_nil)
      (pss_cons (ps_if (pt_cmpR op_eq (pe_callB call_len (by rfl) B.n_len bt_len (pa_cons (pv 0) pa_nil)) pe_int (nomark _)) (pss_one (ps_ret (pe_makeSK M F hr (takes_of rfl rfl rfl rfl) g (pa_cons (pe_ix ix_list (pv 0) pe_int (fun _ _ => rfl)) (pa_cons (pe_ix ix_list (pv 0) pe_int (fun _ _ => rfl)) (pa_cons (pe_ix ix_list (pv 0) pe_int (fun _ _ => rfl)) pa_nil))) (pk_cons (pv 1) pk_nil)))) pss_nil)
      (pss_one (ps_ret (pe_makeSK M F hr (takes_of rfl rfl rfl rfl) g (pa_cons (pe_ix ix_list (pv 0) pe_int (fun _ _ => rfl)) (pa_cons (pe_ix ix_list (pv 0) pe_int (fun _ _ => rfl)) (pa_cons (pe_ix ix_list (pv 0) pe_int (fun _ _ => rfl)) (pa_cons (pe_ix ix_list (pv 0) pe_int (fun _ _ => rfl)) pa_nil)))) (pk_cons (pv 1) pk_nil)))))))), ?_⟩
    match xs, hn, hS, m with
    | [], _, hS, m =>
      refine ⟨_, rfl, .ref a, _, rfl, .inl ⟨_, hS, rfl⟩, rfl, _, rfl, iteT ?_⟩
      exact ⟨_, rfl, kv, rfl, fun x dx hx hdx ne => m.want x dx hx hdx ne⟩
    | [v1], _, hS, m =>
      refine ⟨_, rfl, .ref a, _, rfl, .inl ⟨_, hS, rfl⟩, rfl, _, rfl, iteF ?_⟩
      refine ⟨_, rfl, .ref a, _, rfl, .inl ⟨_, hS, rfl⟩, rfl, _, rfl, iteT ?_⟩
      refine ⟨_, rfl, a, _, 0, v1, rfl, rfl, hS, atI_nat (j := 0) rfl, ?_⟩
      exact ⟨_, rfl, kv, rfl, fun x dx hx hdx ne => m.want x dx hx hdx ne⟩
    | [v1, v2], _, hS, m =>
      refine ⟨_, rfl, .ref a, _, rfl, .inl ⟨_, hS, rfl⟩, rfl, _, rfl, iteF ?_⟩
      refine ⟨_, rfl, .ref a, _, rfl, .inl ⟨_, hS, rfl⟩, rfl, _, rfl, iteF ?_⟩
      refine ⟨_, rfl, .ref a, _, rfl, .inl ⟨_, hS, rfl⟩, rfl, _, rfl, iteT ?_⟩
      refine ⟨_, rfl, a, _, 0, v1, rfl, rfl, hS, atI_nat (j := 0) rfl, ?_⟩
      refine ⟨_, rfl, a, _, 1, v2, rfl, rfl, hS, atI_nat (j := 1) rfl, ?_⟩
      exact ⟨_, rfl, kv, rfl, fun x dx hx hdx ne => m.want x dx hx hdx ne⟩
    | [v1, v2, v3], _, hS, m =>
      refine ⟨_, rfl, .ref a, _, rfl, .inl ⟨_, hS, rfl⟩, rfl, _, rfl, iteF ?_⟩
      refine ⟨_, rfl, .ref a, _, rfl, .inl ⟨_, hS, rfl⟩, rfl, _, rfl, iteF ?_⟩
      refine ⟨_, rfl, .ref a, _, rfl, .inl ⟨_, hS, rfl⟩, rfl, _, rfl, iteF ?_⟩
      refine ⟨_, rfl, .ref a, _, rfl, .inl ⟨_, hS, rfl⟩, rfl, _, rfl, iteT ?_⟩
      refine ⟨_, rfl, a, _, 0, v1, rfl, rfl, hS, atI_nat (j := 0) rfl, ?_⟩
      refine ⟨_, rfl, a, _, 1, v2, rfl, rfl, hS, atI_nat (j := 1) rfl, ?_⟩
      refine ⟨_, rfl, a, _, 2, v3, rfl, rfl, hS, atI_nat (j := 2) rfl, ?_⟩
      exact ⟨_, rfl, kv, rfl, fun x dx hx hdx ne => m.want x dx hx hdx ne⟩
    | [v1, v2, v3, v4], _, hS, m =>
      refine ⟨_, rfl, .ref a, _, rfl, .inl ⟨_, hS, rfl⟩, rfl, _, rfl, iteF ?_⟩
      refine ⟨_, rfl, .ref a, _, rfl, .inl ⟨_, hS, rfl⟩, rfl, _, rfl, iteF ?_⟩
      refine ⟨_, rfl, .ref a, _, rfl, .inl ⟨_, hS, rfl⟩, rfl, _, rfl, iteF ?_⟩
      refine ⟨_, rfl, .ref a, _, rfl, .inl ⟨_, hS, rfl⟩, rfl, _, rfl, iteF ?_⟩
      refine ⟨_, rfl, a, _, 0, v1, rfl, rfl, hS, atI_nat (j := 0) rfl, ?_⟩
      refine ⟨_, rfl, a, _, 1, v2, rfl, rfl, hS, atI_nat (j := 1) rfl, ?_⟩
      refine ⟨_, rfl, a, _, 2, v3, rfl, rfl, hS, atI_nat (j := 2) rfl, ?_⟩
      refine ⟨_, rfl, a, _, 3, v4, rfl, rfl, hS, atI_nat (j := 3) rfl, ?_⟩
      exact ⟨_, rfl, kv, rfl, fun x dx hx hdx ne => m.want x dx hx hdx ne⟩
    | _ :: _ :: _ :: _ :: _ :: _, hn, _, _ => exact absurd hn (by simp)
end
end K08
set_option Elab.async false
set_option linter.all false
set_option maxRecDepth 100000
set_option maxHeartbeats 4000000
namespace K08
open PySem PySem.Spec PyProof.Rows L2 TL Qh
def eqS : Str := Str.ofString "="
theorem tl_eqS : tl eqS = [61] := by decide +kernel
def groupT : List Str → List Str → List (List Str)
  | cur, [] => [cur]
  | cur, p :: r => if p = eqS then cur :: groupT [] r else groupT (cur ++ [p]) r
theorem is_eq (p : Str) : tl p = [61] ↔ p = eqS := ⟨fun h => ext_tl (by rw [h, tl_eqS]), fun h => by rw [h, tl_eqS]⟩
theorem group_yes {p : Str} (h : p = eqS) (cur r : List Str) : groupT cur (p :: r) = cur :: groupT [] r := by
  show (if p = eqS then _ else _) = _
  rw [if_pos h]
theorem group_no {p : Str} (h : ¬ p = eqS) (cur r : List Str) : groupT cur (p :: r) = groupT (cur ++ [p]) r := by
  show (if p = eqS then _ else _) = _
  rw [if_neg h]
theorem group_map : ∀ (r cur : List Str), (groupT cur r).map (fun ts => ts.map tl) = groupS (cur.map tl) (r.map tl)
  | [], cur => rfl
  | p :: r, cur => by
    rw [List.map_cons]
    by_cases h : p = eqS
    · have e2 : groupS (cur.map tl) (tl p :: r.map tl) = cur.map tl :: groupS [] (r.map tl) := by
        show (if tl p = [61] then _ else _) = _
        rw [if_pos ((is_eq p).mpr h)]
      rw [group_yes h, e2, List.map_cons, group_map r []]
      rfl
    · have e2 : groupS (cur.map tl) (tl p :: r.map tl) = groupS (cur.map tl ++ [tl p]) (r.map tl) := by
        show (if tl p = [61] then _ else _) = _
        rw [if_neg fun z => h ((is_eq p).mp z)]
      rw [group_no h, e2, group_map r (cur ++ [p]), List.map_append]
      rfl
theorem tl_inj : ∀ {a b : List Str}, a.map tl = b.map tl → a = b
  | [], [], _ => rfl
  | x :: a, y :: b, h => by
    injection h with h1 h2
    rw [ext_tl h1, tl_inj h2]
  | [], _ :: _, h => by cases h
  | _ :: _, [], h => by cases h
theorem tls_inj : ∀ {a b : List (List Str)}, a.map (fun ts => ts.map tl) = b.map (fun ts => ts.map tl) → a = b
  | [], [], _ => rfl
  | x :: a, y :: b, h => by
    injection h with h1 h2
    rw [tl_inj h1, tls_inj h2]
  | [], _ :: _, h => by cases h
  | _ :: _, [], h => by cases h
def readS (x : Str) : Option (List (List Str)) := if (groupT [] (partsOf x)).all sideS = true ∧ decide ((2 : Int) ≤ ((groupT [] (partsOf x)).length : Int)) = true ∧ decide (((groupT [] (partsOf x)).length : Int) ≤ 4) = true then some (groupT [] (partsOf x)) else none
theorem word_no_eq {y : Str} (h : wordS y = true) : tl y ≠ [61] := fun z => by
  unfold wordS lettersS at h
  have h2 := (Bool.and_eq_true_iff.mp h).2
  have h2 : (tl y).all ltr = true := h2
  rw [z] at h2
  exact absurd h2 (by decide)
theorem sides_eq_groups {x : Str} (h : (sidesOf x).all sideS = true ∨ (groupT [] (partsOf x)).all sideS = true) : sidesOf x = groupT [] (partsOf x) := by
  apply tls_inj
  rw [sides_spl, group_map]
  show sides3 [] _ = groupS [] _
  rcases h with h | h
  · refine same_of_sides _ _ fun s hs hm => ?_
    rw [← sides_spl] at hs
    obtain ⟨ts, hts, rfl⟩ := List.mem_map.mp hs
    obtain ⟨y, hy, e⟩ := List.mem_map.mp hm
    have h1 := List.all_eq_true.mp h ts hts
    unfold sideS at h1
    exact word_no_eq (List.all_eq_true.mp (Bool.and_eq_true_iff.mp h1).2 y hy) e
  · refine same_of_groups _ _ fun s hs e => ?_
    have hs : s ∈ groupS (([] : List Str).map tl) ((partsOf x).map tl) := hs
    rw [← group_map] at hs
    obtain ⟨ts, hts, rfl⟩ := List.mem_map.mp hs
    have h1 := List.all_eq_true.mp h ts hts
    unfold sideS at h1
    have h2 := of_decide_eq_true (Bool.and_eq_true_iff.mp (Bool.and_eq_true_iff.mp h1).1).1
    rw [List.map_eq_nil_iff.mp e] at h2
    exact absurd h2 (by decide)
theorem read_rule (x : Str) : readS x = ruleS x := by
  unfold readS ruleS
  by_cases h : (sidesOf x).all sideS = true ∨ (groupT [] (partsOf x)).all sideS = true
  · rw [← sides_eq_groups h]
    by_cases c : ((decide ((2 : Int) ≤ ((sidesOf x).length : Int)) && decide (((sidesOf x).length : Int) ≤ 4)) && (sidesOf x).all sideS) = true
    · rw [if_pos c, if_pos]
      obtain ⟨c1, c2⟩ := Bool.and_eq_true_iff.mp c
      obtain ⟨c3, c4⟩ := Bool.and_eq_true_iff.mp c1
      exact ⟨c2, c3, c4⟩
    · rw [if_neg c, if_neg]
      rintro ⟨z1, z2, z3⟩
      exact c (by rw [z1, z2, z3]; rfl)
  · rw [if_neg, if_neg]
    · intro z
      exact h (.inl (Bool.and_eq_true_iff.mp z).2)
    · intro z
      exact h (.inr z.1)
theorem spl_sub (S : List Nat) : ∀ (l : List Nat) (k : Nat) (acc : List Nat), ∀ p ∈ spl S k acc l, ∀ c ∈ p, c ∈ acc ∨ c ∈ l
  | [], k, acc, p, hp, c, hc => by
    rw [spl_nil] at hp
    rw [List.mem_singleton.mp hp] at hc
    exact .inl hc
  | a :: r, 0, acc, p, hp, c, hc => by
    by_cases h : pre S (a :: r) = true
    · rw [spl_hit h] at hp
      rcases List.mem_cons.mp hp with rfl | hp
      · exact .inl hc
      · rcases spl_sub S r (S.length - 1) [] p hp c hc with h | h
        · cases h
        · exact .inr (List.mem_cons_of_mem _ h)
    · rw [spl_miss (by simpa using h)] at hp
      rcases spl_sub S r 0 (acc ++ [a]) p hp c hc with h | h
      · rcases List.mem_append.mp h with h | h
        · exact .inl h
        · exact .inr (by rw [List.mem_singleton.mp h]; exact List.mem_cons_self)
      · exact .inr (List.mem_cons_of_mem _ h)
  | a :: r, k + 1, acc, p, hp, c, hc => by
    have e : spl S (k + 1) acc (a :: r) = spl S k acc r := rfl
    rw [e] at hp
    rcases spl_sub S r k acc p hp c hc with h | h
    · exact .inl h
    · exact .inr (List.mem_cons_of_mem _ h)
theorem txt_iff (x : Str) : txt x = true ↔ ∀ c ∈ tl x, c < 0x110000 := by
  unfold txt
  rw [← Array.all_toList, List.all_eq_true]
  constructor
  · intro h c hc
    simpa using h c hc
  · intro h c hc
    simpa using h c hc
theorem parts_txt {x p : Str} (h : txt x = true) (hp : p ∈ partsOf x) : txt p = true := by
  rw [txt_iff] at h ⊢
  intro c hc
  have hm : tl p ∈ spl [32] 0 [] (tl x) := by
    rw [← Qh.parts_spl]
    exact List.mem_map_of_mem hp
  rcases spl_sub _ _ _ _ _ hm c hc with z | z
  · cases z
  · exact h c z
theorem group_mem : ∀ (r cur : List Str), ∀ ts ∈ groupT cur r, ∀ y ∈ ts, y ∈ cur ∨ y ∈ r
  | [], cur, ts, hts, y, hy => by
    rw [List.mem_singleton.mp hts] at hy
    exact .inl hy
  | p :: r, cur, ts, hts, y, hy => by
    by_cases h : p = eqS
    · rw [group_yes h] at hts
      rcases List.mem_cons.mp hts with rfl | hts
      · exact .inl hy
      · rcases group_mem r [] ts hts y hy with z | z
        · cases z
        · exact .inr (List.mem_cons_of_mem _ z)
    · rw [group_no h] at hts
      rcases group_mem r _ ts hts y hy with z | z
      · rcases List.mem_append.mp z with z | z
        · exact .inl z
        · exact .inr (by rw [List.mem_singleton.mp z]; exact List.mem_cons_self)
      · exact .inr (List.mem_cons_of_mem _ z)
theorem group_len : ∀ (r cur : List Str), (groupT cur r).length ≤ r.length + 1 ∧ ∀ ts ∈ groupT cur r, ts.length ≤ cur.length + r.length
  | [], cur => ⟨by simp [groupT], fun ts hts => by rw [List.mem_singleton.mp hts]; omega⟩
  | p :: r, cur => by
    by_cases h : p = eqS
    · rw [group_yes h]
      obtain ⟨i1, i2⟩ := group_len r []
      refine ⟨by simp only [List.length_cons]; omega, fun ts hts => ?_⟩
      rcases List.mem_cons.mp hts with rfl | hts
      · omega
      · have := i2 ts hts
        simp only [List.length_cons, List.length_nil] at this ⊢
        omega
    · rw [group_no h]
      obtain ⟨i1, i2⟩ := group_len r (cur ++ [p])
      refine ⟨by simp only [List.length_cons]; omega, fun ts hts => ?_⟩
      have := i2 ts hts
      simp only [List.length_cons, List.length_append, List.length_nil] at this ⊢
      omega
theorem lay_tups : ∀ r : List (List Str), (∀ ts ∈ r, ∀ y ∈ ts, txt y = true) → PyData.canLayAll0 (r.map fun ts => PyData.tuple (ts.map PyData.str)) = true ∧ PyData.depthAll (r.map fun ts => PyData.tuple (ts.map PyData.str)) ≤ 1
  | [], _ => ⟨rfl, Nat.zero_le _⟩
  | ts :: r, h => by
    obtain ⟨i1, i2⟩ := lay_tups r fun t ht => h t (List.mem_cons_of_mem _ ht)
    obtain ⟨j1, j2⟩ := lay_strs ts (h ts List.mem_cons_self)
    constructor
    · show (PyData.canLayAll0 (ts.map PyData.str) && PyData.canLayAll0 (r.map fun ts => PyData.tuple (ts.map PyData.str))) = true
      rw [i1, j1]
      rfl
    · show max (PyData.depthAll (ts.map PyData.str) + 1) (PyData.depthAll (r.map fun ts => PyData.tuple (ts.map PyData.str))) ≤ 1
      rw [j2]
      omega
theorem shaped_tups {r : List (List Str)} (h : ∀ ts ∈ r, ∀ y ∈ ts, txt y = true) : SeqAt.shaped (.list (r.map fun ts => PyData.tuple (ts.map PyData.str))) = true := by
  obtain ⟨i1, i2⟩ := lay_tups r h
  show (PyData.canLayAll0 (r.map fun ts => PyData.tuple (ts.map PyData.str)) && decide (PyData.depthAll (r.map fun ts => PyData.tuple (ts.map PyData.str)) + 1 ≤ 64)) = true
  rw [i1, decide_eq_true (show PyData.depthAll (r.map fun ts => PyData.tuple (ts.map PyData.str)) + 1 ≤ 64 by omega)]
  rfl
end K08
set_option Elab.async false
set_option linter.all false
set_option maxRecDepth 100000
set_option maxHeartbeats 4000000
namespace K08
open PySem PySem.Spec PyProof.Rows L2 TL Qh
abbrev sRead : Stmt := top 31
/-- a value whose type is known: a text of a small size and of signs, or something else -/
def KnownT (K : PySem.W.Frag) (G : Hp) (v : V) : Prop := (∃ x, v = .str x ∧ x.length ≤ 900000 ∧ txt x = true) ∨ ((∀ x, v ≠ .str x) ∧ ∃ t, TyX K G v t ∧ PySem.W.kitOne K t (.type "str") = some false)
theorem KnownT.known {K : PySem.W.Frag} {G : Hp} {v : V} (h : KnownT K G v) : Known K G v := by
  rcases h with ⟨x, e, hx, _⟩ | h
  · exact .inl ⟨x, e, by omega⟩
  · exact .inr h
def spRead (K : PySem.W.Frag) : Sp := fun vs G Q _ => ∃ (v : V), vs = [v] ∧ KnownT K G v ∧ (ruleV v = none → ∀ G', Same G G' → Q .non G') ∧ ∀ r, ruleV v = some r → ∀ q G', Same G G' → RuleAt G' q r → Q (.ref q) G'
abbrev readN : List Str := ["_law_value", "_law_sides_here", "_law_side", "_law_part", "_law_wrong", "_law_one"]
theorem SidesAt.snoc_ref {as : List Addr} {a : Addr} : (as ++ [a]).map V.ref = as.map V.ref ++ [V.ref a] := by
  rw [List.map_append]
  rfl
theorem SidesAt.dp {K : PySem.W.Frag} {G : Hp} {as : List Addr} {r : List (List Str)} (h : SidesAt G as r) : DpAll K G (as.map V.ref) (r.map fun ts => PyData.tuple (ts.map PyData.str)) := sides_dp h
theorem SidesAt.upd {G : Hp} {D : Addr} {o : HO} (hD : G D = none) {as : List Addr} {r : List (List Str)} (h : SidesAt G as r) : SidesAt (L2.upd G D o) as r := h.same (Same.new hD)
theorem eqv_nil_map (r : List (List Str)) : PyData.eqv (.list (r.map fun ts => PyData.tuple (ts.map PyData.str))) (.list []) = r.isEmpty := by
  cases r with
  | nil => rfl
  | cons a r => rfl
theorem filter_none {α : Type} {p : α → Bool} : ∀ l : List α, (l.filter fun x => !p x).isEmpty = l.all p
  | [] => rfl
  | a :: r => by
    rw [List.filter_cons, List.all_cons]
    cases h : p a with
    | true => exact filter_none r
    | false => rfl
abbrev scOne : Scope := { kind := ScopeKind.function, names := [(Str.ofString ".0", NameKind.local), (Str.ofString "_law_one", NameKind.local), (Str.ofString "len", NameKind.globalImplicit)], isGenerator := false, isCoroutine := false }
section
variable {P : Program} {w : World} {K : PySem.W.Frag} {mg : Str → Option Value} {base : Heap}
theorem scRead : FnScope readN ["_law_value"] (defScope sRead) := ⟨rfl, rfl, rfl, by decide +kernel, rfl, by decide +kernel, by decide +kernel⟩
set_option maxHeartbeats 8000000 in
theorem ok_read (D : DefIn K mg "_law_read" sRead) (B : Blt mg) (F__law_is_word : Ok P w K mg base "_law_is_word" (defArgs sLawIsWord) ["_law_term"] 1 spWordT) :
    Ok P w K mg base "_law_read" (defArgs sRead) ["_law_value"] 2 (spRead K) := by
  refine D.ok scRead (fun vs G Q E h => ?_) (fun _ _ _ _ _ _ us hl => match us, hl with | [_], _ => rfl) (fun f cdv A out t G vs Q E hr h => ?_)
  · obtain ⟨v, rfl, _⟩ := h
    rfl
  · obtain ⟨v, rfl, hv, k1, k2⟩ := h
    have hu64 := hr.units
    refine ⟨_, (pss_cons (ps_if (pt_not (pt_val (pe_callB call_isi (by rfl) B.n_isinstance bt_isinstance (pa_cons (pv 0) (pa_cons (pe_bltn (v := .ty "str") (by rfl) B.n_str bt_str rfl) pa_nil))))) (pss_one (ps_ret pe_non)) pss_nil)
    (pss_cons (ps_par rfl scRead.nd (i := 1) (j := 2) rfl rfl (by decide) rfl rfl (pa_cons (pn_lst pa_nil) (pa_cons (pn_lst pa_nil) pa_nil)) (by rfl))
    (pss_cons (ps_for (passes_of rfl) rfl (pi_list (pe_bm PySem.F.plainAttrs_str PySem.F.slot_str_split PySem.F.type_str_split mt_split (pv 0) (pa_cons pe_str pa_nil))) (pg_name (i := 3) scRead.nd rfl (by first | exact Or.inl rfl | exact Or.inr rfl))
      (pss_one (ps_if (pt_cmpR op_eq (pv 3) pe_str (nomark _)) (pss_cons (ps_expr (pe_bm PySem.F.plainAttrs_list PySem.F.slot_list_append PySem.F.type_list_append mt_append (pv 1) (pa_cons (pe_callTy cn_tuple (by rfl) B.n_tuple bt_tuple (pa_cons (pv 2) pa_nil)) pa_nil)))
    (pss_one (ps_set (i := 2) scRead.nd rfl (by first | exact Or.inl rfl | exact Or.inr rfl) (pn_lst pa_nil)))) (pss_one (ps_expr (pe_bm PySem.F.plainAttrs_list PySem.F.slot_list_append PySem.F.type_list_append mt_append (pv 2) (pa_cons (pv 3) pa_nil)))))))
    (pss_cons (ps_expr (pe_bm PySem.F.plainAttrs_list PySem.F.slot_list_append PySem.F.type_list_append mt_append (pv 1) (pa_cons (pe_callTy cn_tuple (by rfl) B.n_tuple bt_tuple (pa_cons (pv 2) pa_nil)) pa_nil)))
    (pss_cons (ps_setLc (i := 4) (own := [("_law_one", 5)]) (tt := _) rfl scRead.nd rfl rfl (sw_true rfl rfl rfl (by decide +kernel)) (pi_list (pv 1)) (blkOk_by (N := readN) (sc := defScope sRead) (by decide +kernel)) (fun _ _ _ _ _ => pg_name (i := 5) scRead.nd rfl (by first | exact Or.inl rfl | exact Or.inr rfl)) (fun _ _ _ _ _ => pts_one (PW.pt (pw_or (pt_not (pt_chain op_le op_le pe_int (pe_callB (r := rLen K) call_len (by rfl) B.n_len bt_len (pa_cons (pv 5) pa_nil)) pe_int)) (pw_or1 (pt_cmpR (r := rNeD K) (op_neD hu64) (pe_lc (wi := iTup K (tVar 5)) (own := [("_law_part", 3)]) (tt := _) rfl scRead.nd (pi_tup (pv 5)) (blkOk_by (N := readN) (sc := scOne) (by decide +kernel)) (fun _ _ _ _ _ => pg_name (i := 3) scRead.nd rfl (by first | exact Or.inl rfl | exact Or.inr rfl)) (fun _ _ _ _ _ => pts_one (pt_not (pt_val (pe_own F__law_is_word (hr.mono (by decide)) takes0 (pa_cons (pv 3) pa_nil))))) (fun _ _ _ _ _ => (pv 3))) (pn_lst pa_nil) (nomark _)))))) (fun _ _ _ _ _ => (pv 5)))
    (pss_one (ps_ret (pe_ifExp (PW.pt (pw_and (pt_cmpR (op_eqD hu64) (pv 4) (pn_lst pa_nil) (nomark _)) (pw_and1 (pt_chain op_le op_le pe_int (pe_callB call_len (by rfl) B.n_len bt_len (pa_cons (pv 1) pa_nil)) pe_int)))) (pe_callTy cn_tuple (by rfl) B.n_tuple bt_tuple (pa_cons (pv 1) pa_nil)) pe_non)))))))), ?_⟩
    rcases hv with ⟨x, rfl, hx, hxt⟩ | ⟨hno, ty, hty, hk⟩
    case inr =>
      refine ⟨_, rfl, _, _, _, _, _, rfl, .ty _, hty, hk, _, rfl, ?_⟩
      refine iteT ?_
      exact k1 (ruleV_other hno) G (Same.refl G)
    refine ⟨_, rfl, _, _, _, _, _, rfl, .ty _, .base (.str x), kit_ty (r := true) (by decide +kernel), _, rfl, ?_⟩
    refine iteF ?_
    refine ⟨by show 0 ≤ sizeLine; decide, fun q1 G1 n1 s1 l1 => ?_⟩
    refine ⟨by show 0 ≤ sizeLine; decide, fun q2 G2 n2 s2 l2 => ?_⟩
    refine ⟨_, _, rfl, ?_⟩
    refine ⟨_, rfl, rfl, x, blank, rfl, rfl, by decide +kernel, by have := sizeLine_eq; omega, fun q0 n0 => ?_⟩
    have g1 : G q1 = none := n1
    have q12 : q1 ≠ q2 := ne_of_none l1 n2
    have q10 : q1 ≠ q0 := ne_of_none (s2 _ _ l1) n0
    have q20 : q2 ≠ q0 := ne_of_none l2 n0
    have hpc := parts_count x
    refine ⟨q0, rfl, ⟨_, SqL.of upd_same⟩, ?_⟩
    refine for_list (xs := (partsOf x).map V.str) (fun i σ' G' => ∃ (r2 : Addr) (o3 : Option V) (as : List Addr) (done : List (List Str)) (cur : List Str),
      σ' = [some (.str x), some (.ref q1), some (.ref r2), o3, none, none] ∧ Same G G' ∧ G' q0 = some (.lst ((partsOf x).map V.str)) ∧ G' q1 = some (.lst (as.map V.ref)) ∧ SidesAt G' as done ∧ G' r2 = some (.lst (cur.map V.str)) ∧
      q1 ≠ r2 ∧ r2 ≠ q0 ∧ G r2 = none ∧ cur.length ≤ i ∧ as.length ≤ i ∧ groupT [] (partsOf x) = done ++ groupT cur ((partsOf x).drop i))
      ⟨q2, none, [], [], [], rfl, (s1.trans s2).trans (Same.new n0), upd_same, by rw [upd_ne q10]; exact s2 _ _ l1, .nil, by rw [upd_ne q20]; exact l2, q12, q20, s1.free n2, Nat.le_refl _, Nat.le_refl _, rfl⟩
      (fun i σ' G' _ ⟨_, _, _, _, _, _, _, h, _⟩ => SqL.of h) ?_ ?_
    · rintro i v σ1 G3 hi ⟨r2, o3, as, done, cur, rfl, sm, h0, h1, hs, h2, n12, n20, g2, hcl, hal, hg⟩
      obtain ⟨y, hyi, rfl⟩ := map_at hi
      have hil := (List.getElem?_eq_some_iff.mp hyi).1
      have hdrop : (partsOf x).drop i = y :: (partsOf x).drop (i + 1) := by
        rw [List.drop_eq_getElem_cons hil, (List.getElem?_eq_some_iff.mp hyi).2]
      rw [hdrop] at hg
      refine ⟨_, rfl, rfl, _, rfl, ?_⟩
      refine ite2 (fun h => ?_) (fun h => ?_)
      · have e : y = eqS := by
          have h := of_decide_eq_true h
          injection h
        rw [group_yes e] at hg
        refine ⟨_, rfl, .inl ⟨rfl, _, SqL.of h1⟩, ?_⟩
        refine ⟨_, rfl, r2, _, rfl, SqL.of h2, fun u G4 hu su lu => ?_⟩
        refine ⟨q1, as.map V.ref, .ref u, rfl, rfl, su _ _ h1, by rw [List.length_map]; exact big_line' (by omega), ?_⟩
        refine ⟨by show 0 ≤ sizeLine; decide, fun r3 G5 n5 s5 l5 => ?_⟩
        have smu : Same G (L2.upd G4 q1 (.lst (as.map V.ref ++ [.ref u]))) := Qh.Same.fresh (sm.trans su) g1
        refine ⟨r3, _, as ++ [u], done ++ [cur], [], rfl, smu.trans s5, s5 _ _ (by rw [upd_ne q10.symm]; exact su _ _ h0), s5 _ _ (by rw [upd_same, SidesAt.snoc_ref]),
          ((SidesAt.put (su _ _ h1) (SidesAt.snoc lu (hs.same su))).same s5), l5, ne_of_none upd_same n5, ?_, smu.free n5, by simp, by simp; omega, ?_⟩
        · exact fun z => by
            rw [z, upd_ne q10.symm, su _ _ h0] at n5
            cases n5
        · rw [hg, List.append_assoc]
          rfl
      · have e : ¬ y = eqS := fun z => h (decide_eq_true (by rw [z]; rfl))
        rw [group_no e] at hg
        refine ⟨_, rfl, .inl ⟨rfl, _, SqL.of h2⟩, _, rfl, r2, _, _, rfl, rfl, h2, by rw [List.length_map]; exact big_line' (by omega), ?_⟩
        refine ⟨r2, _, as, done, cur ++ [y], rfl, Qh.Same.fresh sm g2, by rw [upd_ne n20.symm]; exact h0, by rw [upd_ne n12]; exact h1, SidesAt.put h2 hs, by rw [upd_same, List.map_append]; rfl, n12, n20, g2, by simp; omega, by omega, hg⟩
    rintro σ1 G3 ⟨r2, o3, as, done, cur, rfl, sm, h0, h1, hs, h2, n12, n20, g2, hcl, hal, hg⟩
    rw [List.length_map, List.drop_length] at hg
    rw [List.length_map] at hcl hal
    refine ⟨_, rfl, .inl ⟨rfl, _, SqL.of h1⟩, ?_⟩
    refine ⟨_, rfl, r2, _, rfl, SqL.of h2, fun u G4 hu su lu => ?_⟩
    refine ⟨q1, as.map V.ref, .ref u, rfl, rfl, su _ _ h1, by rw [List.length_map]; exact big_line' (by omega), ?_⟩
    have sm5 : Same G (L2.upd G4 q1 (.lst (as.map V.ref ++ [.ref u]))) := Qh.Same.fresh (sm.trans su) g1
    have l5 : (L2.upd G4 q1 (.lst (as.map V.ref ++ [.ref u]))) q1 = some (.lst ((as ++ [u]).map V.ref)) := by rw [upd_same, SidesAt.snoc_ref]
    have hs5 : SidesAt (L2.upd G4 q1 (.lst (as.map V.ref ++ [.ref u]))) (as ++ [u]) (groupT [] (partsOf x)) := by
      rw [hg]
      exact SidesAt.put (su _ _ h1) (SidesAt.snoc lu (hs.same su))
    generalize L2.upd G4 q1 (.lst (as.map V.ref ++ [.ref u])) = G5 at sm5 l5 hs5
    generalize as ++ [u] = as5 at l5 hs5
    have htx : ∀ ts ∈ groupT [] (partsOf x), ∀ y ∈ ts, txt y = true ∧ y.length ≤ 900000 := fun ts hts y hy => by
      rcases group_mem _ _ ts hts y hy with z | z
      · cases z
      · exact ⟨parts_txt hxt z, Nat.le_trans (parts_len z) hx⟩
    have hgl := group_len (partsOf x) []
    have hrule := read_rule x
    unfold readS at hrule
    generalize groupT [] (partsOf x) = sds at hs5 htx hgl hrule
    obtain ⟨hgl1, hgl2⟩ := hgl
    have hlen := hs5.len
    refine ⟨_, rfl, q1, rfl, ⟨_, SqL.of l5⟩, fun D hD => ?_⟩
    refine lc_list (xs := as5.map V.ref) (fun i G' => Same G5 G' ∧ ∃ ws : List Addr, G' D = some (.lst (ws.map V.ref)) ∧ SidesAt G' ws ((sds.take i).filter fun ts => !sideS ts) ∧ ws.length ≤ i)
      ⟨Same.new hD, [], upd_same, .nil, Nat.le_refl _⟩ (fun i G' _ ⟨sm, _⟩ => SqL.of (sm _ _ l5)) ?_ ?_
    · rintro i v G6 hi ⟨sm6, ws, hl, hw, hwl⟩
      obtain ⟨a, hai, rfl⟩ := map_at hi
      obtain ⟨ts, hti, hta⟩ := hs5.at hai
      have hil := (List.getElem?_eq_some_iff.mp hai).1
      have htm := List.mem_of_getElem? hti
      have bad : sideS ts = false → ∀ G7, Same G6 G7 → ∃ acc, G7 D = some (.lst acc) ∧ acc.length < sizeLine ∧ Same G5 (L2.upd G7 D (.lst (acc ++ [V.ref a]))) ∧ ∃ ws : List Addr, (L2.upd G7 D (.lst (acc ++ [V.ref a]))) D = some (.lst (ws.map V.ref)) ∧
          SidesAt (L2.upd G7 D (.lst (acc ++ [V.ref a]))) ws ((sds.take (i + 1)).filter fun ts => !sideS ts) ∧ ws.length ≤ i + 1 := fun hb G7 s7 => by
        have hl7 := s7 _ _ hl
        refine ⟨ws.map V.ref, hl7, by rw [List.length_map]; exact big_line' (by omega), Qh.Same.fresh (sm6.trans s7) hD, ws ++ [a], by rw [upd_same, SidesAt.snoc_ref], ?_, by simp; omega⟩
        rw [take_get hti, List.filter_append, List.filter_cons, hb]
        exact SidesAt.put hl7 (SidesAt.snoc (s7 _ _ (sm6 _ _ hta)) (hw.same s7))
      have good : sideS ts = true → ∀ G7, Same G6 G7 → Same G5 G7 ∧ ∃ ws : List Addr, G7 D = some (.lst (ws.map V.ref)) ∧ SidesAt G7 ws ((sds.take (i + 1)).filter fun ts => !sideS ts) ∧ ws.length ≤ i + 1 := fun hb G7 s7 => by
        refine ⟨sm6.trans s7, ws, s7 _ _ hl, ?_, by omega⟩
        rw [take_get hti, List.filter_append, List.filter_cons, hb]
        show SidesAt G7 ws (_ ++ [])
        rw [List.append_nil]
        exact hw.same s7
      refine ⟨rfl, ?_⟩
      refine ⟨_, rfl, .ref a, _, rfl, .inr ⟨_, SqT.of (sm6 _ _ hta), rfl⟩, ?_⟩
      rw [List.length_map]
      refine ⟨_, _, rfl, rfl, _, rfl, ?_⟩
      refine ite2 (fun h1 => ?_) (fun h1 => ?_)
      case refine_2 =>
        refine ⟨_, rfl, iteT (iteT ⟨_, rfl, bad ?_ G6 (Same.refl _)⟩)⟩
        unfold sideS
        rw [Bool.eq_false_iff.mpr h1, Bool.false_and, Bool.false_and]
      refine ⟨_, _, rfl, rfl, _, rfl, ?_⟩
      refine ite2 (fun h2 => ?_) (fun h2 => ?_)
      · have h2 : decide ((ts.length : Int) ≤ 4) = false := by simpa using h2
        refine iteT ⟨_, rfl, bad ?_ G6 (Same.refl _)⟩
        unfold sideS
        rw [h2, Bool.and_false, Bool.false_and]
      have h2 : decide ((ts.length : Int) ≤ 4) = true := by simpa using h2
      refine ⟨_, rfl, a, rfl, ⟨_, SqT.of (sm6 _ _ hta)⟩, fun D2 hD2 => ?_⟩
      refine lc_tup (xs := ts.map V.str) (fun j G' => Same G6 G' ∧ G' D2 = some (.lst (((ts.take j).filter fun y => !wordS y).map V.str))) ⟨Same.new hD2, upd_same⟩ (fun j G' _ ⟨s, _⟩ => SqT.of (s _ _ (sm6 _ _ hta))) ?_ ?_
      · rintro j v2 G7 hj ⟨s7, l7⟩
        obtain ⟨y, hyj, rfl⟩ := map_at hj
        have hjl := (List.getElem?_eq_some_iff.mp hyj).1
        obtain ⟨t1, t2⟩ := htx ts htm y (List.mem_of_getElem? hyj)
        refine ⟨rfl, ?_⟩
        refine ⟨_, rfl, y, rfl, by omega, t1, fun G8 s8 => ?_⟩
        refine ⟨_, rfl, ?_⟩
        have et := take_get hyj
        have hfl := List.length_filter_le (fun y => !wordS y) (ts.take j)
        rw [List.length_take] at hfl
        have htsl := hgl2 ts htm
        cases e : wordS y with
        | true =>
          refine ⟨s7.trans s8, ?_⟩
          rw [s8 _ _ l7, et, List.filter_append, List.filter_cons, e]
          show some (HO.lst (List.map _ _)) = some (HO.lst (List.map _ (_ ++ [])))
          rw [List.append_nil]
        | false =>
          refine ⟨_, rfl, _, s8 _ _ l7, by rw [List.length_map]; simp only [List.length_nil] at htsl; exact big_line' (by omega), Qh.Same.fresh (s7.trans s8) hD2, ?_⟩
          rw [upd_same, et, List.filter_append, List.filter_cons, e, List.map_append]
          rfl
      · rintro G7 ⟨s7, l7⟩
        rw [List.length_map, List.take_length] at l7
        refine ⟨by show 0 ≤ sizeLine; decide, fun q9 G9 n9 s9 l9 => ?_⟩
        refine ⟨_, .list [], .lst (SqL.of (s9 _ _ l7)) (dp_strs _), .lst (SqL.of l9) .nil, shaped_strsL _ fun y hy => (htx ts htm y (List.mem_filter.mp hy).1).1, rfl, _, rfl, ?_⟩
        rw [eqv_nil_r]
        have eq : decide (((ts.filter fun y => !wordS y).map PyData.str) = []) = ts.all wordS := by
          rw [← filter_none ts]
          cases (ts.filter fun y => !wordS y) <;> rfl
        rw [eq]
        cases ha : ts.all wordS with
        | true =>
          exact good (by unfold sideS; rw [h1, h2, ha]; rfl) G9 (s7.trans s9)
        | false =>
          exact ⟨_, rfl, bad (by unfold sideS; rw [ha, Bool.and_false]) G9 (s7.trans s9)⟩
    · rintro G6 ⟨sm6, ws, hl, hw, hwl⟩
      rw [List.length_map, hlen, List.take_length] at hw
      have smG : Same G G6 := sm5.trans sm6
      refine ⟨_, rfl, by show 0 ≤ sizeLine; decide, fun q9 G9 n9 s9 l9 => ?_⟩
      refine ⟨.list _, .list [], .lst (SqL.of (s9 _ _ hl)) (hw.same s9).dp, .lst (SqL.of l9) .nil, shaped_tups fun ts hts y hy => (htx ts (List.mem_filter.mp hts).1 y hy).1, rfl, _, rfl, ?_⟩
      rw [eqv_nil_map, filter_none]
      have none_of : (¬ (sds.all sideS = true ∧ decide ((2 : Int) ≤ (sds.length : Int)) = true ∧ decide ((sds.length : Int) ≤ 4) = true)) → ruleV (.str x) = none := fun h => by
        show ruleS x = none
        rw [← hrule, if_neg h]
      have sm9 := smG.trans s9
      refine ite2 (fun c1 => ?_) (fun c1 => ?_)
      case refine_2 => exact k1 (none_of fun z => c1 z.1) G9 sm9
      refine ⟨_, rfl, .ref q1, _, rfl, .inl ⟨_, SqL.of (s9 _ _ (sm6 _ _ l5)), rfl⟩, ?_⟩
      rw [List.length_map, hlen]
      refine ⟨_, _, rfl, rfl, _, rfl, ?_⟩
      refine ite2 (fun c2 => ?_) (fun c2 => ?_)
      case refine_2 => exact ⟨_, rfl, k1 (none_of fun z => c2 z.2.1) G9 sm9⟩
      refine ⟨_, _, rfl, rfl, _, rfl, ?_⟩
      refine ite2 (fun c3 => ?_) (fun c3 => ?_)
      case refine_2 => exact k1 (none_of fun z => c3 z.2.2) G9 sm9
      refine ⟨_, rfl, q1, _, rfl, SqL.of (s9 _ _ (sm6 _ _ l5)), fun u9 G10 hu9 su9 lu9 => ?_⟩
      refine k2 sds ?_ u9 G10 (sm9.trans su9) ⟨as5, lu9, ((hs5.same sm6).same s9).same su9⟩
      show ruleS x = _
      rw [← hrule, if_pos ⟨c1, c2, c3⟩]
end
end K08
set_option Elab.async false
set_option linter.all false
set_option maxRecDepth 100000
set_option maxHeartbeats 4000000
namespace K08
open PySem PySem.Spec PyProof.Rows L2 TL Qh Qi ClX
abbrev sMany : Stmt := top 25
abbrev sMade : Stmt := top 26
theorem cut_take (xs : List V) (n : Nat) : cutV xs none (some (n : Int)) = xs.take n := by
  unfold cutV
  rw [HT.sIx_none, HT.sIx_nat, List.drop_zero, Nat.sub_zero]
  by_cases h : n ≤ xs.length
  · rw [Nat.min_eq_left h]
  · rw [Nat.min_eq_right (by omega), List.take_of_length_le (Nat.le_refl _), List.take_of_length_le (by omega)]
def spMany (K : PySem.W.Frag) (C CE : Addr) : Sp := fun vs G Q E => ∃ (a : Addr) (xs : List V) (kv : V), vs = [.ref a, kv] ∧ SqL K G a xs ∧ 5 ≤ xs.length ∧ xs.length ≤ 9 ∧ Made K C CE xs kv G Q E
theorem Made.same {K : PySem.W.Frag} {C CE : Addr} {xs : List V} {kv : V} {G H : Hp} {Q : VK} {E : XK} (m : Made K C CE xs kv G Q E) (s : Same G H) : Made K C CE xs kv H Q E := by
  have err : ∀ {d : Addr} {G' : Hp} {r : Str} {i : V}, ErrStep H G' d r i → ErrStep G G' d r i := fun e => ⟨s.free e.1, s.trans e.2.1, e.2.2⟩
  exact ⟨fun v hv G' k => m.hk v hv G' (s.trans k), m.hn, fun G' k => m.hkv G' (s.trans k), fun h d G' e => m.kA h d G' (err e), fun h i h1 h2 d G' e => m.kB h i h1 h2 d G' (err e), fun h h1 h2 d G' e => m.kC h h1 h2 d G' (err e),
    fun h h1 b hb x dx D vs G' n k => m.kD h h1 b hb x dx D vs G' (s.free n) (s.trans k)⟩
section
variable {P : Program} {w : World} {K : PySem.W.Frag} {mg : Str → Option Value} {base : Heap}
abbrev manyN : List Str := ["_law_some", "_law_held", "_law_a", "_law_b", "_law_c", "_law_d", "_law_e"]
theorem scMany : FnScope manyN ["_law_some", "_law_held"] (defScope sMany) := ⟨rfl, rfl, rfl, by decide +kernel, rfl, by decide +kernel, by decide +kernel⟩
set_option maxHeartbeats 16000000 in
theorem ok_many {C CE fI : Addr} (D : DefIn K mg "_law_many" sMany) (B : Blt mg) (g : mg "Same" = some (.ref C)) (M : Mk K C fI) (F : FnRK P w K mg base (L2.CX P w) 5 fI "keep" (spInitK K C CE)) :
    Ok P w K mg base "_law_many" (defArgs sMany) ["_law_some", "_law_held"] 7 (spMany K C CE) := by
  refine D.ok scMany (fun vs G Q E h => ?_) (fun _ _ _ _ _ _ us hl => match us, hl with | [_, _], _ => rfl) (fun f cdv A out t G vs Q E hr h => ?_)
  · obtain ⟨a, xs, kv, rfl, _⟩ := h
    rfl
  · obtain ⟨a, xs, kv, rfl, hS, hn5, hn, m⟩ := h
    refine ⟨_, (pss_cons (ps_asg (pe_slice sl_list (pv 0) po_none (po_some pe_int)) (pg_lst rfl (pgs_cons (pg_name (i := 2) scMany.nd rfl (by first | exact Or.inl rfl | exact Or.inr rfl)) (pgs_cons (pg_name (i := 3) scMany.nd rfl (by first | exact Or.inl rfl | exact Or.inr rfl)) (pgs_cons (pg_name (i := 4) scMany.nd rfl (by first | exact Or.inl rfl | exact Or.inr rfl)) (pgs_cons (pg_name (i := 5) scMany.nd rfl (by first | exact Or.inl rfl | exact Or.inr rfl)) pgs_nil))))))
      (pss_cons (ps_set (i := 6) scMany.nd rfl (by first | exact Or.inl rfl | exact Or.inr rfl) (pe_ix ix_list (pv 0) pe_int (fun _ _ => rfl)))
      (pss_cons (ps_if (pt_cmpR op_eq (pe_callB call_len (by rfl) B.n_len bt_len (pa_cons (pv 0) pa_nil)) pe_int (nomark _)) (pss_one (ps_ret (pe_makeSK M F hr (takes_of rfl rfl rfl rfl) g (pa_cons (pv 2) (pa_cons (pv 3) (pa_cons (pv 4) (pa_cons (pv 5) (pa_cons (pv 6) pa_nil))))) (pk_cons (pv 1) pk_nil)))) pss_nil)
      (pss_cons (ps_if (pt_cmpR op_eq (pe_callB call_len (by rfl) B.n_len bt_len (pa_cons (pv 0) pa_nil)) pe_int (nomark _)) (pss_one (ps_ret (pe_makeSK M F hr (takes_of rfl rfl rfl rfl) g (pa_cons (pv 2) (pa_cons (pv 3) (pa_cons (pv 4) (pa_cons (pv 5) (pa_cons (pv 6) (pa_cons (pe_ix ix_list (pv 0) pe_int (fun _ _ => rfl)) pa_nil)))))) (pk_cons (pv 1) pk_nil)))) pss_nil)
      (pss_cons (ps_if (pt_cmpR op_eq (pe_callB call_len (by rfl) B.n_len bt_len (pa_cons (pv 0) pa_nil)) pe_int (nomark _)) (pss_one (ps_ret (pe_makeSK M F hr (takes_of rfl rfl rfl rfl) g (pa_cons (pv 2) (pa_cons (pv 3) (pa_cons (pv 4) (pa_cons (pv 5) (pa_cons (pv 6) (pa_cons (pe_ix ix_list (pv 0) pe_int (fun _ _ => rfl)) (pa_cons (pe_ix ix_list (pv 0) pe_int (fun _ _ => rfl)) pa_nil))))))) (pk_cons (pv 1) pk_nil)))) pss_nil)
      (pss_cons (ps_if (pt_cmpR op_eq (pe_callB call_len (by rfl) B.n_len bt_len (pa_cons (pv 0) pa_nil)) pe_int (nomark _)) (pss_one (ps_ret (pe_makeSK M F hr (takes_of rfl rfl rfl rfl) g (pa_cons (pv 2) (pa_cons (pv 3) (pa_cons (pv 4) (pa_cons (pv 5) (pa_cons (pv 6) (pa_cons (pe_ix ix_list (pv 0) pe_int (fun _ _ => rfl)) (pa_cons (pe_ix ix_list (pv 0) pe_int (fun _ _ => rfl)) (pa_cons (pe_ix ix_list (pv 0) pe_int (fun _ _ => rfl)) pa_nil)))))))) (pk_cons (pv 1) pk_nil)))) pss_nil)
      (pss_one (ps_ret (pe_makeSK M F hr (takes_of rfl rfl rfl rfl) g (pa_cons (pv 2) (pa_cons (pv 3) (pa_cons (pv 4) (pa_cons (pv 5) (pa_cons (pv 6) (pa_cons (pe_ix ix_list (pv 0) pe_int (fun _ _ => rfl)) (pa_cons (pe_ix ix_list (pv 0) pe_int (fun _ _ => rfl)) (pa_cons (pe_ix ix_list (pv 0) pe_int (fun _ _ => rfl)) (pa_cons (pe_ix ix_list (pv 0) pe_int (fun _ _ => rfl)) pa_nil))))))))) (pk_cons (pv 1) pk_nil)))))))))), ?_⟩
    match xs, hn5, hn, hS, m with
    | [v1, v2, v3, v4, v5], _, _, hS, m =>
      refine ⟨_, rfl, 4, rfl, a, _, rfl, hS, fun p hp => ?_⟩
      have hcut : cutV [v1, v2, v3, v4, v5] none (some (4 : Int)) = [v1, v2, v3, v4] := cut_take _ 4
      rw [hcut]
      have sp : Same G (L2.upd G p (.lst [v1, v2, v3, v4])) := Qh.Same.new hp
      have hS := sp.seq hS
      have m := m.same sp
      refine ⟨p, [v1, v2, v3, v4], rfl, SqL.of upd_same, rfl, _, _, rfl, _, _, rfl, _, _, rfl, _, _, rfl, rfl, ?_⟩
      generalize L2.upd G p (.lst [v1, v2, v3, v4]) = G1 at hS m
      refine ⟨_, rfl, a, _, 4, v5, rfl, rfl, hS, atI_nat (j := 4) rfl, ?_⟩
      refine ⟨_, rfl, .ref a, _, rfl, .inl ⟨_, hS, rfl⟩, rfl, _, rfl, iteT ?_⟩
      refine ⟨_, rfl, _, rfl, _, rfl, _, rfl, _, rfl, ?_⟩
      exact ⟨_, rfl, kv, rfl, fun x dx hx hdx ne => m.want x dx hx hdx ne⟩
    | [v1, v2, v3, v4, v5, v6], _, _, hS, m =>
      refine ⟨_, rfl, 4, rfl, a, _, rfl, hS, fun p hp => ?_⟩
      have hcut : cutV [v1, v2, v3, v4, v5, v6] none (some (4 : Int)) = [v1, v2, v3, v4] := cut_take _ 4
      rw [hcut]
      have sp : Same G (L2.upd G p (.lst [v1, v2, v3, v4])) := Qh.Same.new hp
      have hS := sp.seq hS
      have m := m.same sp
      refine ⟨p, [v1, v2, v3, v4], rfl, SqL.of upd_same, rfl, _, _, rfl, _, _, rfl, _, _, rfl, _, _, rfl, rfl, ?_⟩
      generalize L2.upd G p (.lst [v1, v2, v3, v4]) = G1 at hS m
      refine ⟨_, rfl, a, _, 4, v5, rfl, rfl, hS, atI_nat (j := 4) rfl, ?_⟩
      refine ⟨_, rfl, .ref a, _, rfl, .inl ⟨_, hS, rfl⟩, rfl, _, rfl, iteF ?_⟩
      refine ⟨_, rfl, .ref a, _, rfl, .inl ⟨_, hS, rfl⟩, rfl, _, rfl, iteT ?_⟩
      refine ⟨_, rfl, _, rfl, _, rfl, _, rfl, _, rfl, ?_⟩
      refine ⟨_, rfl, a, _, 5, v6, rfl, rfl, hS, atI_nat (j := 5) rfl, ?_⟩
      exact ⟨_, rfl, kv, rfl, fun x dx hx hdx ne => m.want x dx hx hdx ne⟩
    | [v1, v2, v3, v4, v5, v6, v7], _, _, hS, m =>
      refine ⟨_, rfl, 4, rfl, a, _, rfl, hS, fun p hp => ?_⟩
      have hcut : cutV [v1, v2, v3, v4, v5, v6, v7] none (some (4 : Int)) = [v1, v2, v3, v4] := cut_take _ 4
      rw [hcut]
      have sp : Same G (L2.upd G p (.lst [v1, v2, v3, v4])) := Qh.Same.new hp
      have hS := sp.seq hS
      have m := m.same sp
      refine ⟨p, [v1, v2, v3, v4], rfl, SqL.of upd_same, rfl, _, _, rfl, _, _, rfl, _, _, rfl, _, _, rfl, rfl, ?_⟩
      generalize L2.upd G p (.lst [v1, v2, v3, v4]) = G1 at hS m
      refine ⟨_, rfl, a, _, 4, v5, rfl, rfl, hS, atI_nat (j := 4) rfl, ?_⟩
      refine ⟨_, rfl, .ref a, _, rfl, .inl ⟨_, hS, rfl⟩, rfl, _, rfl, iteF ?_⟩
      refine ⟨_, rfl, .ref a, _, rfl, .inl ⟨_, hS, rfl⟩, rfl, _, rfl, iteF ?_⟩
      refine ⟨_, rfl, .ref a, _, rfl, .inl ⟨_, hS, rfl⟩, rfl, _, rfl, iteT ?_⟩
      refine ⟨_, rfl, _, rfl, _, rfl, _, rfl, _, rfl, ?_⟩
      refine ⟨_, rfl, a, _, 5, v6, rfl, rfl, hS, atI_nat (j := 5) rfl, ?_⟩
      refine ⟨_, rfl, a, _, 6, v7, rfl, rfl, hS, atI_nat (j := 6) rfl, ?_⟩
      exact ⟨_, rfl, kv, rfl, fun x dx hx hdx ne => m.want x dx hx hdx ne⟩
    | [v1, v2, v3, v4, v5, v6, v7, v8], _, _, hS, m =>
      refine ⟨_, rfl, 4, rfl, a, _, rfl, hS, fun p hp => ?_⟩
      have hcut : cutV [v1, v2, v3, v4, v5, v6, v7, v8] none (some (4 : Int)) = [v1, v2, v3, v4] := cut_take _ 4
      rw [hcut]
      have sp : Same G (L2.upd G p (.lst [v1, v2, v3, v4])) := Qh.Same.new hp
      have hS := sp.seq hS
      have m := m.same sp
      refine ⟨p, [v1, v2, v3, v4], rfl, SqL.of upd_same, rfl, _, _, rfl, _, _, rfl, _, _, rfl, _, _, rfl, rfl, ?_⟩
      generalize L2.upd G p (.lst [v1, v2, v3, v4]) = G1 at hS m
      refine ⟨_, rfl, a, _, 4, v5, rfl, rfl, hS, atI_nat (j := 4) rfl, ?_⟩
      refine ⟨_, rfl, .ref a, _, rfl, .inl ⟨_, hS, rfl⟩, rfl, _, rfl, iteF ?_⟩
      refine ⟨_, rfl, .ref a, _, rfl, .inl ⟨_, hS, rfl⟩, rfl, _, rfl, iteF ?_⟩
      refine ⟨_, rfl, .ref a, _, rfl, .inl ⟨_, hS, rfl⟩, rfl, _, rfl, iteF ?_⟩
      refine ⟨_, rfl, .ref a, _, rfl, .inl ⟨_, hS, rfl⟩, rfl, _, rfl, iteT ?_⟩
      refine ⟨_, rfl, _, rfl, _, rfl, _, rfl, _, rfl, ?_⟩
      refine ⟨_, rfl, a, _, 5, v6, rfl, rfl, hS, atI_nat (j := 5) rfl, ?_⟩
      refine ⟨_, rfl, a, _, 6, v7, rfl, rfl, hS, atI_nat (j := 6) rfl, ?_⟩
      refine ⟨_, rfl, a, _, 7, v8, rfl, rfl, hS, atI_nat (j := 7) rfl, ?_⟩
      exact ⟨_, rfl, kv, rfl, fun x dx hx hdx ne => m.want x dx hx hdx ne⟩
    | [v1, v2, v3, v4, v5, v6, v7, v8, v9], _, _, hS, m =>
      refine ⟨_, rfl, 4, rfl, a, _, rfl, hS, fun p hp => ?_⟩
      have hcut : cutV [v1, v2, v3, v4, v5, v6, v7, v8, v9] none (some (4 : Int)) = [v1, v2, v3, v4] := cut_take _ 4
      rw [hcut]
      have sp : Same G (L2.upd G p (.lst [v1, v2, v3, v4])) := Qh.Same.new hp
      have hS := sp.seq hS
      have m := m.same sp
      refine ⟨p, [v1, v2, v3, v4], rfl, SqL.of upd_same, rfl, _, _, rfl, _, _, rfl, _, _, rfl, _, _, rfl, rfl, ?_⟩
      generalize L2.upd G p (.lst [v1, v2, v3, v4]) = G1 at hS m
      refine ⟨_, rfl, a, _, 4, v5, rfl, rfl, hS, atI_nat (j := 4) rfl, ?_⟩
      refine ⟨_, rfl, .ref a, _, rfl, .inl ⟨_, hS, rfl⟩, rfl, _, rfl, iteF ?_⟩
      refine ⟨_, rfl, .ref a, _, rfl, .inl ⟨_, hS, rfl⟩, rfl, _, rfl, iteF ?_⟩
      refine ⟨_, rfl, .ref a, _, rfl, .inl ⟨_, hS, rfl⟩, rfl, _, rfl, iteF ?_⟩
      refine ⟨_, rfl, .ref a, _, rfl, .inl ⟨_, hS, rfl⟩, rfl, _, rfl, iteF ?_⟩
      refine ⟨_, rfl, _, rfl, _, rfl, _, rfl, _, rfl, ?_⟩
      refine ⟨_, rfl, a, _, 5, v6, rfl, rfl, hS, atI_nat (j := 5) rfl, ?_⟩
      refine ⟨_, rfl, a, _, 6, v7, rfl, rfl, hS, atI_nat (j := 6) rfl, ?_⟩
      refine ⟨_, rfl, a, _, 7, v8, rfl, rfl, hS, atI_nat (j := 7) rfl, ?_⟩
      refine ⟨_, rfl, a, _, 8, v9, rfl, rfl, hS, atI_nat (j := 8) rfl, ?_⟩
      exact ⟨_, rfl, kv, rfl, fun x dx hx hdx ne => m.want x dx hx hdx ne⟩
    | [], h, _, _, _ => exact absurd h (by simp)
    | [_], h, _, _, _ => exact absurd h (by simp)
    | [_, _], h, _, _, _ => exact absurd h (by simp)
    | [_, _, _], h, _, _, _ => exact absurd h (by simp)
    | [_, _, _, _], h, _, _, _ => exact absurd h (by simp)
    | _ :: _ :: _ :: _ :: _ :: _ :: _ :: _ :: _ :: _ :: _, _, h, _, _ => exact absurd h (by simp)

def isBl : V → Bool
  | .bl _ => true
  | _ => false
theorem isBl_yes {v : V} (h : isBl v = true) : ∃ b, v = .bl b := by
  cases v with
  | bl b => exact ⟨b, rfl⟩
  | _ => cases h
/-- the reason and the index that are due; none if the step can be made -/
def dueX (xs : List V) (kv : V) : Option (Str × Option Nat) := if (decide ((1 : Int) ≤ (xs.length : Int)) && decide ((xs.length : Int) ≤ 8)) = true then
  (match (xs.map ruleV).findIdx? (fun o => o.isNone) with
    | some i => some (Str.ofString "rule", some i)
    | none => if isBl kv then none else some (Str.ofString "keep", none)) else some (Str.ofString "rules", none)
def ixV : Option Nat → V
  | none => .non
  | some i => .int (i : Int)
/-- what is wished of _law_made(some, held) -/
structure MadeQ (K : PySem.W.Frag) (C CE : Addr) (xs : List V) (kv : V) (H : Hp) (Q : VK) : Prop where
  hk : ∀ v ∈ xs, ∀ G', Same H G' → Known K G' v
  hkv : ∀ G', Same H G' → KeepV K G' kv
  bad : ∀ reason i, dueX xs kv = some (reason, i) → ∀ a d G', H a = none → Same H G' → G' a = some (exk (.ref CE) (some d) a) → G' d = some (.xd [("index", ixV i), ("reason", .str reason)]) → Q (.ref a) G'
  good : dueX xs kv = none → ∀ b, kv = .bl b → (∀ o ∈ xs.map ruleV, o ≠ none) → ∀ (x dx D : Addr) (vs : List V) G', H x = none → Same H G' → G' x = some (.ins C dx [("rules", .ref D), ("keep", .bl b)]) → G' D = some (.tup vs) → RVs G' vs (xs.map ruleV) → Q (.ref x) G'
def spMade (K : PySem.W.Frag) (C CE : Addr) : Sp := fun vs G Q _ => ∃ (a : Addr) (xs : List V) (kv : V), vs = [.ref a, kv] ∧ SqL K G a xs ∧ xs.length ≤ 9 ∧ MadeQ K C CE xs kv G Q
theorem MadeQ.made {K : PySem.W.Frag} {C CE : Addr} {xs : List V} {kv : V} {H : Hp} {Q : VK} {E : XK} (m : MadeQ K C CE xs kv H Q) (hn : xs.length ≤ 9) (hE : ∀ d G', (∀ a, G' a = none → Q (.ref a) (L2.upd G' a (exk (.ref CE) (some d) a))) → E (.ref CE) (some d) G') : Made K C CE xs kv H Q E := by
  have err : ∀ (reason : Str) (i : Option Nat), dueX xs kv = some (reason, i) → ∀ d G', ErrStep H G' d reason (ixV i) → E (.ref CE) (some d) G' := fun reason i hd d G' e => hE d G' fun a ha =>
    m.bad reason i hd a d _ (e.2.1.free ha) (e.2.1.trans (Qh.Same.new ha)) upd_same (by rw [upd_ne (ne_of_none e.2.2 ha)]; exact e.2.2)
  refine ⟨m.hk, by omega, m.hkv, fun h => ?_, fun h i h1 h2 => ?_, fun h h1 h2 => ?_, fun h h1 b hb x dx D vs G' n s ix tD rv => ?_⟩
  · exact err "rules" none (by unfold dueX; rw [h]; rfl)
  · refine err "rule" (some i) ?_
    unfold dueX
    rw [if_pos h, findIdx_some h1 rfl fun j o hj ho => ?_]
    have := h2 j o hj ho
    cases o with
    | none => exact absurd rfl this
    | some _ => rfl
  · refine err "keep" none ?_
    unfold dueX
    rw [if_pos h, findIdx_none fun j o ho => ?_]
    · have : isBl kv = false := by
        cases e : isBl kv with
        | false => rfl
        | true =>
          obtain ⟨b, hb⟩ := isBl_yes e
          exact absurd hb (h2 b)
      rw [this]
      rfl
    · have := h1 o (List.mem_of_getElem? ho)
      cases o with
      | none => exact absurd rfl this
      | some _ => rfl
  · refine m.good ?_ b hb h1 x dx D vs G' n s ix tD rv
    unfold dueX
    rw [if_pos h, findIdx_none fun j o ho => ?_]
    · rw [hb]
      rfl
    · have := h1 o (List.mem_of_getElem? ho)
      cases o with
      | none => exact absurd rfl this
      | some _ => rfl
theorem scMade : FnScope ["_law_some", "_law_held", "error", "_law_caught"] ["_law_some", "_law_held"] (defScope sMade) := ⟨rfl, rfl, rfl, by decide +kernel, rfl, by decide +kernel, by decide +kernel⟩
theorem ok_made {C CE CQ : Addr} (D : DefIn K mg "_law_made" sMade) (B : Blt mg) (gQ : mg "QuoteError" = some (.ref CQ)) (ex : PySem.W.exmOne K (.ref CE) (.ref CQ) = some true)
    (F__law_few : Ok P w K mg base "_law_few" (defArgs sFew) ["_law_some", "_law_held"] 7 (spFew K C CE)) (F__law_many : Ok P w K mg base "_law_many" (defArgs sMany) ["_law_some", "_law_held"] 7 (spMany K C CE)) :
    Ok P w K mg base "_law_made" (defArgs sMade) ["_law_some", "_law_held"] 8 (spMade K C CE) := by
  refine D.ok scMade (fun vs G Q E h => ?_) (fun _ _ _ _ _ _ us hl => match us, hl with | [_, _], _ => rfl) (fun f cdv A out t G vs Q E hr h => ?_)
  · obtain ⟨a, xs, kv, rfl, _⟩ := h
    rfl
  · obtain ⟨a, xs, kv, rfl, hS, hn, m⟩ := h
    refine ⟨_, (pss_cons (ps_try_held (i := 2) (j := 3) rfl rfl rfl scMade.nd rfl rfl rfl rfl (by decide) (by decide) rfl ⟨rfl, by decide, .inl gQ⟩ takes0
        (fun W pn xe tk _ => pss_one (ps_ret (pe_ifExp (pt_cmpR op_lt (pe_callB (r := rLen K) call_len (by rfl) B.n_len bt_len (pa_cons (pv 0) pa_nil)) pe_int (nomark _)) (pe_own F__law_few hr tk (pa_cons (pv 0) (pa_cons (pv 1) pa_nil))) (pe_own F__law_many hr tk (pa_cons (pv 0) (pa_cons (pv 1) pa_nil)))))))
      (pss_one (ps_ret (pv 3)))), ?_⟩
    refine ⟨_, rfl, .ref a, _, rfl, .inl ⟨_, hS, rfl⟩, _, _, rfl, rfl, _, rfl, ?_⟩
    refine ite2 (fun h => ?_) (fun h => ?_)
    · have h := of_decide_eq_true h
      refine ⟨_, rfl, _, rfl, a, xs, kv, rfl, hS, by omega, m.made hn fun d G' k => ?_⟩
      exact ⟨true, ex, fun _ b hb => ⟨_, rfl, k b hb⟩, fun z => nomatch z⟩
    · have h : ¬ ((xs.length : Int) < 5) := fun z => h (decide_eq_true z)
      refine ⟨_, rfl, _, rfl, a, xs, kv, rfl, hS, by omega, hn, m.made hn fun d G' k => ?_⟩
      exact ⟨true, ex, fun _ b hb => ⟨_, rfl, k b hb⟩, fun z => nomatch z⟩
end
end K08
set_option Elab.async false
set_option linter.all false
set_option maxRecDepth 100000
set_option maxHeartbeats 4000000
/-! Parts behind which a text's mark has been given out: text.replace wants one. -/
namespace Qm
open PySem PySem.Spec PyProof.Rows L2 TL Qh CwR
/-- e, behind which a mark is out -/
def PEK (X : Cx) (e : Expr) (t : TE) : Prop :=
  ∀ (pins : List (Addr × Obj)) (s : Shared) (σ : L2.St) (H : Hp) (Q : VK), Inv X pins σ H s → t σ H Q → wpAny (model X.prog X.w) X.A (eval e X.env) (fun v s' => 1 ≤ s'.toks ∧ EP X pins σ Q v s') X.xe s
def PAK (X : Cx) (es : List Expr) (t : TA) : Prop :=
  ∀ (pos : Pos) (pins : List (Addr × Obj)) (s : Shared) (σ : L2.St) (H : Hp) (Q : List V → Hp → Prop), Inv X pins σ H s → t σ H Q → wpAny (model X.prog X.w) X.A (spliced (backTo pos (starEach es X.env))) (fun us s' => 1 ≤ s'.toks ∧ AP X pins σ Q us s') X.xe s
section
variable {X : Cx} {W : WX} {e f : Expr} {es : List Expr} {te tf : TE} {ta t : TA} {pos p : Pos} {k : Nat} {ps : List Str} {sp : Sp} {pa : Arguments} {x : Str}
theorem pek_str {c : Str} {j : Nat} : PEK X (.Constant (.str c) j pos) (tC (.str c)) := fun pins s σ H Q I h =>
  Calls.Constant_str ⟨by show 1 ≤ s.toks + 1; omega, .str c, H, I.tok _, ⟨_, rfl⟩, h⟩
theorem pak_cons (he : PEK X e te) (ha : PAT X es ta) (hs : starEach (e :: es) X.env = (false, eval e X.env) :: starEach es X.env := by rfl) : PAK X (e :: es) (tCons te ta) := by
  intro pos pins s σ H Q I h
  rw [hs]
  show wpAny _ _ (spliced ((false, eval e X.env) :: backTo pos (starEach es X.env))) _ _ s
  refine Calls.spliced_cons (thn (he pins s σ H _ I h) fun v s1 q => ?_)
  obtain ⟨hk, x, H1, I1, r1, q1⟩ := q
  refine wpAny_mono (PySem.wpAny_toks_of hk (ha pos pins s1 σ H1 _ hk I1 q1)) (fun us s2 z => ?_) fun _ _ z => z.2
  obtain ⟨hk2, xs, H2, I2, r2, q2⟩ := z
  exact ⟨hk2, x :: xs, H2, I2, .cons r1 r2, q2⟩
theorem pat_of (h : PA X es ta) : PAT X es ta := fun pos pins s σ H Q _ I q => h.run pos pins s σ H Q I q
theorem pek_lst (h : PAK X es ta) : PEK X (.List es pos) (nLst ta) := by
  intro pins s σ G Q I hq
  refine wpAny_List_spliced (thn (h pos pins s σ G _ I hq) ?_)
  rintro us s1 ⟨hk, xs, G1, I1, r, z, q⟩
  refine ⟨r.length ▸ z, ?_⟩
  have hf : G1 s1.heap.objs.size = none := I1.hok.fresh (Nat.le_refl _)
  refine ⟨hk, .ref s1.heap.objs.size, L2.upd G1 s1.heap.objs.size (.lst xs), I1.laid (t' := s1.toks) (fun b u e => Heap.get?_push_of_some _ e) (Nat.le_refl _) ?_, rfl, q _ _ hf (Qh.Same.new hf) upd_same⟩
  exact ⟨z, us, 0, r, Heap.get?_push_size _ rfl⟩
theorem petn_lst (h : PAT X es ta) : PET X (.List es pos) (nLst ta) := by
  intro pins s σ G Q h0 I hq
  refine wpAny_List_spliced (thn (h pos pins s σ G _ h0 I hq) ?_)
  rintro us s1 ⟨xs, G1, I1, r, z, q⟩
  refine ⟨r.length ▸ z, ?_⟩
  have hf : G1 s1.heap.objs.size = none := I1.hok.fresh (Nat.le_refl _)
  refine ⟨.ref s1.heap.objs.size, L2.upd G1 s1.heap.objs.size (.lst xs), I1.laid (t' := s1.toks) (fun b u e => Heap.get?_push_of_some _ e) (Nat.le_refl _) ?_, rfl, q _ _ hf (Qh.Same.new hf) upd_same⟩
  exact ⟨z, us, 0, r, Heap.get?_push_size _ rfl⟩
theorem pek_op {op : Operator} {r : R2} (ho : OpR X (binaryOp op) r) (ha : PEK X e te) (hb : PE X f tf) : PEK X (.BinOp e op f pos) (tOp r te tf) := by
  intro pins s σ H Q I h
  refine wpAny_BinOp (thn (ha pins s σ H _ I h) fun v s1 q => ?_)
  obtain ⟨hk, x, H1, I1, r1, q1⟩ := q
  refine wpAny_mono (PySem.wpAny_toks_of hk (hb.run pins s1 σ H1 _ I1 q1)) (fun u s2 z => ?_) fun _ _ z => z.2
  obtain ⟨hk2, y, H2, I2, r2, q2⟩ := z
  exact wpAny_mono (PySem.wpAny_toks_of hk2 (ho pins s2 σ H2 x y v u Q I2 r1 r2 q2)) (fun _ _ z => z) fun _ _ z => z.2
theorem pek_opR {op : Operator} {r : R2} (ho : OpR X (binaryOp op) r) (ha : PE X e te) (hb : PEK X f tf) : PEK X (.BinOp e op f pos) (tOp r te tf) := by
  intro pins s σ H Q I h
  refine wpAny_BinOp (thn (ha.run pins s σ H _ I h) fun v s1 ⟨x, H1, I1, r1, q1⟩ => ?_)
  refine thn (hb pins s1 σ H1 _ I1 q1) fun u s2 ⟨hk, y, H2, I2, r2, q2⟩ => ?_
  exact wpAny_mono (PySem.wpAny_toks_of hk (ho pins s2 σ H2 x y v u Q I2 r1 r2 q2)) (fun _ _ z => z) fun _ _ z => z.2
theorem pek_own (F : Ok X.prog X.w X.K X.mg X.base x pa ps k sp) (hr : Room k X.A) (tk : Takes X W) (ha : PAK X (e :: es) t) (hg : Gl X x := by rfl) (hdb : (x == ("__debug__" : Str)) = false := by decide)
    (he : starEach (e :: es) X.env = (false, eval e X.env) :: starEach es X.env := by rfl) (hpl : (backTo pos (starEach es X.env)).any (·.1) = false := by rfl) :
    PEK X (.Call (.Name x p) (e :: es) [] pos) (tCallS sp (WE W) t) := by
  obtain ⟨f, body, scope, kV, doc, pm, an, cdv, ct, hm, hk, hb, F⟩ := F.ex
  intro pins s σ H Q I h
  refine wpAny_Call_Name_kw (ld_glob I hg hm ?_ hdb)
  refine PySem.W.callWith_K (h₀ := X.base) I.ok.mod.kin hk (thn (ha pos pins s σ H _ I h) fun us s1 z => ?_) he hpl
  obtain ⟨hk1, vs, H1, I1, r, q⟩ := z
  exact ⟨I1.kIn, wpAny_mono (PySem.wpAny_toks_of hk1 (run_fnS F hr (bindsOf hb) (passAt tk σ) I1 r q)) (fun _ _ z => z) fun _ _ z => z.2⟩
/-- x = e, behind which a mark is out, then statements that want one -/
theorem pss_setk {i : Nat} {y : Str} {rest : List Stmt} {u : TS} {pos' : Pos} (hN : X.N.Nodup) (hi : X.N[i]? = some y) (hx : Loc X.env.scope y) (he : PEK X e te) (h2 : PSsT X rest u) (hs : swapsWith e (some (.Name y pos')) pos.line X.env = pure false := by rfl)
    (hf : X.fn y = true ∨ X.env.scope.names.lookup y = some .local := by first | exact .inl rfl | exact .inr rfl | assumption) :
    PSs X (.Assign [.Name y pos'] e pos :: rest) (tSeq (tAsg te (gName i)) u) := by
  constructor
  intro pins s σ H D I h
  refine wpAny_execs_cons (wpAny_Assign_Name (thn (he pins s σ H _ I h) fun v s1 ⟨hk, z, H1, I1, r1, q1⟩ => ?_) hs)
  refine wpAny_mono (PySem.wpAny_toks_of hk (store_ok (Q := fun _ s2 => Inv X pins (σ.set i (some z)) H1 s2) I1 hN hi hx r1 (fun s2 I2 => I2) hf)) (fun _ s2 q => ?_) fun _ _ z => z.2
  exact h2 pins s2 _ H1 D q.1 q.2 q1
theorem pst_set {i : Nat} {y : Str} {pos' : Pos} (hN : X.N.Nodup) (hi : X.N[i]? = some y) (hx : Loc X.env.scope y) (he : PET X e te) (hs : swapsWith e (some (.Name y pos')) pos.line X.env = pure false := by rfl)
    (hf : X.fn y = true ∨ X.env.scope.names.lookup y = some .local := by first | exact .inl rfl | exact .inr rfl | assumption) : PST X (.Assign [.Name y pos'] e pos) (tAsg te (gName i)) := by
  intro pins s σ H D h0 I h
  refine wpAny_Assign_Name (thn (he pins s σ H _ h0 I h) fun v s1 ⟨z, H1, I1, r1, q1⟩ => ?_) hs
  exact store_ok I1 hN hi hx r1 (fun s2 I2 => ⟨_, H1, I2, q1⟩) hf
end
/-! ### the signs of joined and replaced texts -/
theorem joinL_mem {S : List Nat} : ∀ {ps : List (List Nat)} {c : Nat}, c ∈ joinL S ps → c ∈ S ∨ ∃ p ∈ ps, c ∈ p
  | [], c, h => by cases h
  | [p], c, h => .inr ⟨p, List.mem_cons_self, h⟩
  | p :: q :: r, c, h => by
    have h : c ∈ p ++ (S ++ joinL S (q :: r)) := h
    rcases List.mem_append.mp h with h | h
    · exact .inr ⟨p, List.mem_cons_self, h⟩
    · rcases List.mem_append.mp h with h | h
      · exact .inl h
      · rcases joinL_mem h with h | ⟨p', hp, hc⟩
        · exact .inl h
        · exact .inr ⟨p', List.mem_cons_of_mem _ hp, hc⟩
theorem replS_mem {y z : List Nat} : ∀ (l : List Nat) (n : Nat) {c : Nat}, c ∈ StrLaws.replS y z n l → c ∈ z ∨ c ∈ l
  | [], n, c, h => by
    cases n <;> (rw [StrLaws.replS] at h; cases h)
  | a :: r, 0, c, h => by
    rw [StrLaws.replS] at h
    split at h
    · rcases List.mem_append.mp h with h | h
      · exact .inl h
      · rcases replS_mem r _ h with h | h
        · exact .inl h
        · exact .inr (List.mem_cons_of_mem _ h)
    · rcases List.mem_cons.mp h with rfl | h
      · exact .inr List.mem_cons_self
      · rcases replS_mem r _ h with h | h
        · exact .inl h
        · exact .inr (List.mem_cons_of_mem _ h)
  | a :: r, n + 1, c, h => by
    rw [StrLaws.replS] at h
    rcases replS_mem r _ h with h | h
    · exact .inl h
    · exact .inr (List.mem_cons_of_mem _ h)
theorem allc_mem {p : Nat → Bool} {x : Str} : x.cps.all p = true ↔ ∀ c ∈ tl x, p c = true := by
  rw [← Array.all_toList, List.all_eq_true]
theorem allc_join {q : Nat → Bool} {s : Str} {ps : List Str} (hs : s.cps.all q = true) (h : ∀ p ∈ ps, p.cps.all q = true) : (Txt.join s ps).cps.all q = true := by
  rw [allc_mem] at hs ⊢
  intro c hc
  rw [join_eq, tl_join] at hc
  rcases joinL_mem hc with hc | ⟨p, hp, hc⟩
  · exact hs c hc
  · obtain ⟨y, hy, rfl⟩ := List.mem_map.mp hp
    exact allc_mem.mp (h y hy) c hc
theorem allc_add {q : Nat → Bool} {x y : Str} (hx : x.cps.all q = true) (hy : y.cps.all q = true) : (x ++ y).cps.all q = true := by
  rw [allc_mem] at hx hy ⊢
  intro c hc
  rw [tl_append] at hc
  rcases List.mem_append.mp hc with hc | hc
  · exact hx c hc
  · exact hy c hc
theorem allc_replace {q : Nat → Bool} {x y z : Str} (hy : 1 ≤ y.length) (hx : x.cps.all q = true) (hz : z.cps.all q = true) : (Txt.replace x y z).cps.all q = true := by
  rw [allc_mem] at hx hz ⊢
  intro c hc
  have hc : c ∈ (Txt.replace x y z).cps.toList := hc
  rw [StrLaws.replace_list (x := x) (z := z) hy] at hc
  rcases replS_mem _ 0 hc with hc | hc
  · exact hz c hc
  · exact hx c hc
theorem replace_len (x y z : Str) : (Txt.replace x y z).length ≤ x.length + (x.length + 1) * z.length := TK.replace_len x y z
end Qm
set_option Elab.async false
set_option linter.all false
set_option maxRecDepth 100000
set_option maxHeartbeats 4000000
namespace K08
open PySem PySem.Spec PyProof.Rows L2 TL Qh Qm CwR
abbrev sOdd : Stmt := top 29
theorem ListsAt.append {G : Hp} : ∀ {as bs : List Addr} {r t : List (List Str)}, ListsAt G as r → ListsAt G bs t → ListsAt G (as ++ bs) (r ++ t)
  | _, _, _, _, .nil, k => k
  | _, _, _, _, .cons h u, k => .cons h (ListsAt.append u k)
theorem ListsAt.take {G : Hp} : ∀ {as : List Addr} {r : List (List Str)} (n : Nat), ListsAt G as r → ListsAt G (as.take n) (r.take n)
  | _, _, 0, _ => by
    rw [List.take_zero, List.take_zero]
    exact .nil
  | _, _, _ + 1, .nil => .nil
  | _, _, n + 1, .cons h u => .cons h (ListsAt.take n u)
theorem ListsAt.drop {G : Hp} : ∀ {as : List Addr} {r : List (List Str)} (n : Nat), ListsAt G as r → ListsAt G (as.drop n) (r.drop n)
  | _, _, 0, h => h
  | _, _, _ + 1, .nil => .nil
  | _, _, n + 1, .cons _ u => ListsAt.drop n u
theorem ListsAt.rep {G : Hp} {as : List Addr} {r : List (List Str)} (h : ListsAt G as r) : ∀ n : Nat, ListsAt G (List.replicate n as).flatten (List.replicate n r).flatten
  | 0 => .nil
  | n + 1 => by
    rw [List.replicate_succ, List.replicate_succ, List.flatten_cons, List.flatten_cons]
    exact ListsAt.append h (ListsAt.rep h n)
/-- signs, none of them an x -/
def sg (x : Str) : Bool := x.cps.all fun c => decide (c < 0x110000) && c != 120
theorem sg_txt {x : Str} (h : sg x = true) : txt x = true := by
  have h := allc_mem.mp h
  exact allc_mem.mpr fun c hc => (Bool.and_eq_true_iff.mp (h c hc)).1
theorem sg_x {x : Str} (h : sg x = true) : 120 ∉ tl x := fun hc => absurd (allc_mem.mp h 120 hc) (by decide)
def okTs (ts : List Str) : Prop := ts.length ≤ 5 ∧ ∀ y ∈ ts, y.length ≤ 11 ∧ sg y = true
theorem words_ok : ∀ y ∈ wordsM, y.length ≤ 11 ∧ sg y = true := by
  have h : wordsM.all (fun y => decide (y.length ≤ 11) && sg y) = true := by decide +kernel
  intro y hy
  obtain ⟨h1, h2⟩ := Bool.and_eq_true_iff.mp (List.all_eq_true.mp h y hy)
  exact ⟨of_decide_eq_true h1, h2⟩
theorem good_ok {ts : List Str} (h : goodSide ts) : okTs ts := ⟨by have := h.2.1; omega, fun y hy => words_ok y (h.2.2 y hy)⟩
def lenTs (ts : List Str) : Prop := ts.length ≤ 5 ∧ ∀ y ∈ ts, y.length ≤ 11
theorem ok_size {ts : List Str} (h : lenTs ts) : (ts.map (·.length)).sum + ts.length + 3 ≤ 63 := by
  have h1 := sum_le (l := ts.map (·.length)) (m := 11) fun z hz => by
    obtain ⟨y, hy, rfl⟩ := List.mem_map.mp hz
    exact h.2 y hy
  rw [List.length_map] at h1
  have := h.1
  omega
theorem rule_small0 {r : List (List Str)} (h : ∀ ts ∈ r, lenTs ts) : ruleSize r ≤ r.length * 63 := by
  unfold ruleSize
  have h1 := sum_le (l := r.map fun ts => (ts.map (·.length)).sum + ts.length + 3) (m := 63) fun z hz => by
    obtain ⟨ts, ht, rfl⟩ := List.mem_map.mp hz
    exact ok_size (h ts ht)
  rw [List.length_map] at h1
  exact h1
theorem rule_small {r : List (List Str)} (h : ∀ ts ∈ r, okTs ts) : ruleSize r ≤ r.length * 63 := rule_small0 fun ts ht => ⟨(h ts ht).1, fun y hy => ((h ts ht).2 y hy).1⟩
theorem joinL_size (S : List Nat) : ∀ ps : List (List Nat), (joinL S ps).length ≤ (ps.map (·.length)).sum + ps.length * S.length
  | [] => by simp [joinL]
  | [p] => by simp [joinL]
  | p :: q :: r => by
    have ih := joinL_size S (q :: r)
    show (p ++ (S ++ joinL S (q :: r))).length ≤ _
    simp only [List.length_append, List.length_cons, List.map_cons, List.sum_cons, Nat.add_mul, Nat.one_mul] at ih ⊢
    omega
theorem text_len (r : List (List Str)) : (ruleText r).length ≤ ruleSize r := by
  have h := size_text r
  unfold ruleText
  rw [len_tl, join_eq, tl_join]
  have h1 := joinL_size (tl eqs) ((r.map (Txt.join blank)).map tl)
  have e3 : (tl eqs).length = 3 := by decide +kernel
  have e : (((r.map (Txt.join blank)).map tl).map (·.length)) = (r.map (Txt.join blank)).map (·.length) := by
    rw [List.map_map]
    exact List.map_congr_left fun y _ => (len_tl y).symm
  rw [e3, e, List.length_map, List.length_map] at h1
  omega
theorem text_txt {r : List (List Str)} (h : ∀ ts ∈ r, okTs ts) : sg (ruleText r) = true := by
  refine allc_join (by decide +kernel) fun p hp => ?_
  obtain ⟨ts, ht, rfl⟩ := List.mem_map.mp hp
  exact allc_join (by decide +kernel) fun y hy => ((h ts ht).2 y hy).2
/-- a text that may be told to the package -/
def okS (x : Str) : Prop := x.length ≤ 5000 ∧ sg x = true
theorem text_ok {r : List (List Str)} (h : ∀ ts ∈ r, okTs ts) (hn : r.length ≤ 5) : okS (ruleText r) ∧ ruleSize r ≤ 1000 := by
  have h1 := rule_small h
  have h2 := text_len r
  exact ⟨⟨by omega, text_txt h⟩, by omega⟩
theorem okS_rep {x y z : Str} (hx : x.length ≤ 1000 ∧ sg x = true) (hy : 1 ≤ y.length) (hz : z.length ≤ 3) (tz : sg z = true) : okS (Txt.replace x y z) := by
  have h := Qm.replace_len x y z
  have h2 : (x.length + 1) * z.length ≤ 1001 * 3 := Nat.mul_le_mul (by omega) hz
  exact ⟨by omega, allc_replace hy hx.2 tz⟩
theorem okS_add {x y : Str} (hx : x.length ≤ 1000 ∧ sg x = true) (hy : y.length ≤ 1000 ∧ sg y = true) : okS (x ++ y) ∧ x.length + y.length ≤ sizeLine := by
  have e : (x ++ y).length = x.length + y.length := by rw [len_tl, tl_append, List.length_append, ← len_tl, ← len_tl]
  have hs : (2000 : Nat) ≤ sizeLine := by decide
  exact ⟨⟨by omega, allc_add hx.2 hy.2⟩, by omega⟩
/-- a value of a drawn row: a text, or a plain thing beside the pen -/
def OddV (G : Hp) (p : Addr) (v : V) : Prop := (∃ x, v = .str x ∧ okS x) ∨ v = .non ∨ (∃ b, v = .bl b) ∨ (∃ i, v = .int i) ∨ ∃ a o, v = .ref a ∧ a ≠ p ∧ G a = some o ∧ ((∃ xs, o = .lst xs) ∨ (∃ xs, o = .tup xs) ∨ ∃ kvs, o = .dK kvs)
theorem OddV.kp {G G' : Hp} {p : Addr} {v : V} (h : OddV G p v) (k : Kp p G G') : OddV G' p v := by
  rcases h with h | h | h | h | ⟨a, o, e, n, ha, h⟩
  · exact .inl h
  · exact .inr (.inl h)
  · exact .inr (.inr (.inl h))
  · exact .inr (.inr (.inr (.inl h)))
  · exact .inr (.inr (.inr (.inr ⟨a, o, e, n, k a o n ha, h⟩)))
theorem OddV.same {G G' : Hp} {p : Addr} {v : V} (h : OddV G p v) (k : Same G G') : OddV G' p v := h.kp (Kp.same k)
theorem OddV.str {G : Hp} {p : Addr} {x : Str} (h : okS x) : OddV G p (.str x) := .inl ⟨x, rfl, h⟩
theorem OddV.knownT {K : PySem.W.Frag} {G : Hp} {p : Addr} {v : V} (h : OddV G p v) : KnownT K G v := by
  rcases h with ⟨x, e, h1, h2⟩ | rfl | ⟨b, rfl⟩ | ⟨i, rfl⟩ | ⟨a, o, rfl, n, ha, ⟨xs, rfl⟩ | ⟨xs, rfl⟩ | ⟨kvs, rfl⟩⟩
  · exact .inl ⟨x, e, by omega, sg_txt h2⟩
  · exact .inr ⟨(fun x e => nomatch e), _, .base .non, kit_ty (by decide +kernel)⟩
  · exact .inr ⟨(fun x e => nomatch e), _, .base (.bl b), kit_ty (by decide +kernel)⟩
  · exact .inr ⟨(fun x e => nomatch e), _, .base (.int i), kit_ty (by decide +kernel)⟩
  · exact .inr ⟨(fun x e => nomatch e), _, .base (.lst ha), kit_ty (by decide +kernel)⟩
  · exact .inr ⟨(fun x e => nomatch e), _, .base (.tup ha), kit_ty (by decide +kernel)⟩
  · exact .inr ⟨(fun x e => nomatch e), _, .base (.dK ha), kit_ty (by decide +kernel)⟩
theorem all_two {α : Type} {q : α → Prop} {xs ys : List α} (h1 : ∀ x ∈ xs, q x) (h2 : ∀ x ∈ ys, q x) : ∀ x ∈ xs ++ ys, q x := fun x hx => (List.mem_append.mp hx).elim (h1 x) (h2 x)
theorem all_cons {α : Type} {q : α → Prop} {x : α} {xs : List α} (h1 : q x) (h2 : ∀ y ∈ xs, q y) : ∀ y ∈ x :: xs, q y := fun y hy => (List.mem_cons.mp hy).elim (fun e => e ▸ h1) (h2 y)
theorem all_nil {α : Type} {q : α → Prop} : ∀ y ∈ ([] : List α), q y := fun y hy => nomatch hy
theorem cut_drop (xs : List V) (n : Nat) : cutV xs (some (n : Int)) none = xs.drop n := by
  unfold cutV
  rw [HT.sIx_nat]
  by_cases h : n ≤ xs.length
  · rw [Nat.min_eq_left h]
    exact List.take_of_length_le (by rw [List.length_drop]; exact Nat.le_refl _)
  · rw [Nat.min_eq_right (by omega), List.drop_eq_nil_of_le (Nat.le_refl _), List.drop_eq_nil_of_le (by omega), List.take_nil]
def spOdd (K : PySem.W.Frag) : Sp := fun vs G Q _ => ∃ (p l : Addr) (c : Int), vs = [.ref p] ∧ Pen G p l c ∧ c ≤ 700000 ∧ ∀ (v : V) (G' : Hp), OddV G' p v → (∀ b, v = .ref b → G b = none) → Kp p G G' → Pen G' p l (c + 25) → Q v G'
section
variable {P : Program} {w : World} {K : PySem.W.Frag} {mg : Str → Option Value} {base : Heap}
theorem scOdd : FnScope ["_law_pen_here", "_law_sides_here", "_law_line", "_law_some"] ["_law_pen_here"] (defScope sOdd) := ⟨rfl, rfl, rfl, by decide +kernel, rfl, by decide +kernel, by decide +kernel⟩
set_option maxHeartbeats 16000000 in
theorem ok_odd (D : DefIn K mg "_law_odd" sOdd) (B : Blt mg) (F__law_pick : Ok P w K mg base "_law_pick" (defArgs sPick) ["_law_pen_here", "_law_some"] 2 (spPick K))
    (F__law_sides : Ok P w K mg base "_law_sides" (defArgs sSides) ["_law_pen_here"] 3 spSides) (F__law_told : Ok P w K mg base "_law_told" (defArgs sTold) ["_law_sides_here"] 1 spTold) :
    Ok P w K mg base "_law_odd" (defArgs sOdd) ["_law_pen_here"] 4 (spOdd K) := by
  refine D.ok scOdd (fun vs G Q E h => ?_) (fun _ _ _ _ _ _ us hl => match us, hl with | [_], _ => rfl) (fun f cdv A out t G vs Q E hr h => ?_)
  · obtain ⟨p, l, c, rfl, _⟩ := h
    rfl
  · obtain ⟨p, l, c, rfl, P0, hc, k⟩ := h
    refine ⟨_, (pss_cons (ps_set (i := 1) scOdd.nd rfl (by first | exact Or.inl rfl | exact Or.inr rfl) (pe_own F__law_sides hr takes0 (pa_cons (pv 0) pa_nil)))
    (pss_cons (ps_set (i := 2) scOdd.nd rfl (by first | exact Or.inl rfl | exact Or.inr rfl) (pe_own F__law_told (hr.mono (by decide)) takes0 (pa_cons (pv 1) pa_nil)))
    (pss_cons (ps_set (i := 3) scOdd.nd rfl (by first | exact Or.inl rfl | exact Or.inr rfl) (pn_lst (pa_cons (pe_own F__law_told (hr.mono (by decide)) takes0 (pa_cons (pe_slice sl_list (pv 1) po_none (po_some pe_int)) pa_nil)) (pa_cons (pe_own F__law_told (hr.mono (by decide)) takes0 (pa_cons (pe_slice sl_list (pe_op on_rep (pv 1) pe_int) po_none (po_some pe_int)) pa_nil)) (pa_cons (pe_own F__law_told (hr.mono (by decide)) takes0 (pa_cons (pe_op on_cat (pn_lst (pa_cons (pe_slice sl_list (pe_op on_rep (pe_ix ix_list (pv 1) pe_int (fun _ _ => rfl)) pe_int) po_none (po_some pe_int)) pa_nil)) (pe_slice sl_list (pv 1) (po_some pe_int) po_none)) pa_nil)) pa_nil)))))
    (pss_setk (i := 3) scOdd.nd rfl (by first | exact Or.inl rfl | exact Or.inr rfl) (pek_opR on_cat (pv 3) (pek_lst (pak_cons (pek_own F__law_told (hr.mono (by decide)) takes0 (pak_cons (pek_op on_cat (pek_lst (pak_cons (pek_lst (pak_cons pek_str pat_nil)) pat_nil)) (pv 1)) pat_nil)) (pat_cons (pet_replC (pv 2)) (pat_cons (pet_replC (pv 2)) pat_nil)))))
    (psst_cons (pst_set (i := 3) scOdd.nd rfl (by first | exact Or.inl rfl | exact Or.inr rfl) (pet_op on_cat (PET.of (pv 3)) (petn_lst (pat_cons (pet_replC (pv 2)) (pat_of (pa_cons (pe_op op_add_str (pv 2) pe_str) (pa_cons (pe_op op_add_str pe_str (pv 2)) (pa_cons (pe_op op_add_str (pv 2) pe_str) (pa_cons (pe_op op_add_str pe_str (pv 2)) pa_nil)))))))))
    (psst_cons (pst_set (i := 3) scOdd.nd rfl (by first | exact Or.inl rfl | exact Or.inr rfl) (pet_op on_cat (PET.of (pv 3)) (petn_lst (pat_cons (pet_replC (pv 2)) (pat_of (pa_cons (pe_op op_add_str (pv 2) pe_str) (pa_cons pe_str (pa_cons pe_str (pa_cons pe_str (pa_cons pe_str (pa_cons pe_non (pa_cons pe_int (pa_cons pe_bl (pa_cons (pn_tup (pa_cons pe_str pa_nil)) pa_nil))))))))))))))
    (PSsT.of (pss_one (ps_ret (pe_own F__law_pick (hr.mono (by decide)) takes0 (pa_cons (pv 0) (pa_cons (pe_op on_cat (pv 3) (pn_lst (pa_cons (pn_lst (pa_cons pe_str pa_nil)) (pa_cons pn_dict1 (pa_cons (pn_tup (pa_cons pe_str (pa_cons pe_str pa_nil))) (pa_cons pe_str (pa_cons pe_str (pa_cons pe_str pa_nil)))))))) pa_nil)))))))))))), ?_⟩
    refine ⟨_, rfl, p, l, c, rfl, P0, by omega, fun q r G1 hg h2 h4 hL kp1 P1 => ?_⟩
    obtain ⟨as, hq1, hA1⟩ := hL G1 (Kp.refl _ _)
    have HQ : ∀ {G'}, Same G1 G' → G' q = some (.lst (as.map V.ref)) ∧ ListsAt G' as r := fun s => ⟨s _ _ hq1, hA1.same s⟩
    have hlen := hA1.len
    have hok : ∀ ts ∈ r, okTs ts := fun ts ht => good_ok (hg ts ht)
    have sz : ∀ {n : Nat}, n ≤ 1000 → n ≤ sizeLine := fun h => big_line (by omega)
    have rs := rule_small hok
    have tx := text_txt hok
    have tn := text_len r
    have hline : (ruleText r).length ≤ 1000 ∧ sg (ruleText r) = true := ⟨by omega, tx⟩
    refine ⟨_, rfl, q, r, rfl, ⟨as, hq1, hA1⟩, by omega, fun G2 s2 => ?_⟩
    have hlen315 : (ruleText r).length ≤ 315 := by omega
    generalize hln : ruleText r = line at hline hlen315
    -- the first row
    refine ⟨_, rfl, 1, rfl, q, _, rfl, SqL.of (HQ s2).1, fun a1 n1 => ?_⟩
    have s3 : Same G1 (L2.upd G2 a1 (.lst (cutV (as.map V.ref) none (some 1)))) := s2.trans (Qh.Same.new n1)
    refine ⟨a1, r.take 1, rfl, ⟨as.take 1, by rw [upd_same, show (some (1 : Int)) = some ((1 : Nat) : Int) from rfl, cut_take, ← List.map_take], (HQ s3).2.take 1⟩, Nat.le_trans (rule_small fun ts ht => hok ts (List.mem_of_mem_take ht)) (by rw [List.length_take]; omega), fun G4 s4 => ?_⟩
    have S4 := s3.trans s4
    refine ⟨_, rfl, q, 3, _, rfl, rfl, (HQ S4).1, by decide, by decide, sz (by rw [List.length_map]; show as.length * 3 ≤ 1000; omega), fun a2 G5 n2 s5 l2 => ?_⟩
    refine ⟨5, rfl, a2, _, rfl, SqL.of l2, fun a3 n3 => ?_⟩
    have S5 := S4.trans s5
    have S6 : Same G1 (L2.upd G5 a3 (.lst (cutV (List.replicate (Int.toNat 3) (as.map V.ref)).flatten none (some 5)))) := S5.trans (Qh.Same.new n3)
    have erep : (List.replicate (Int.toNat 3) (as.map V.ref)).flatten = (List.replicate 3 as).flatten.map V.ref := by
      show (List.replicate 3 (as.map V.ref)).flatten = _
      rw [List.map_flatten, List.map_replicate]
    have hok3 : ∀ ts ∈ (List.replicate 3 r).flatten, okTs ts := fun ts ht => by
      obtain ⟨z, hz, ht⟩ := List.mem_flatten.mp ht
      rw [(List.mem_replicate.mp hz).2] at ht
      exact hok ts ht
    have hok5 : ∀ ts ∈ ((List.replicate 3 r).flatten).take 5, okTs ts := fun ts ht => hok3 ts (List.mem_of_mem_take ht)
    refine ⟨a3, ((List.replicate 3 r).flatten).take 5, rfl, ⟨((List.replicate 3 as).flatten).take 5, by rw [upd_same, show (some (5 : Int)) = some ((5 : Nat) : Int) from rfl, cut_take, erep, ← List.map_take], ((HQ S6).2.rep 3).take 5⟩, Nat.le_trans (rule_small hok5) (by rw [List.length_take]; omega), fun G7 s7 => ?_⟩
    have S7 := S6.trans s7
    -- a side five times
    obtain ⟨a0, has⟩ : ∃ a0, as[0]? = some a0 := ⟨as[0]'(by omega), List.getElem?_eq_getElem (by omega)⟩
    obtain ⟨t0, ht0, ha0⟩ := (HQ S7).2.at has
    have hokt := hok t0 (List.mem_of_getElem? ht0)
    refine ⟨_, rfl, q, _, 0, .ref a0, rfl, rfl, SqL.of (HQ S7).1, atI_nat (j := 0) (by rw [List.getElem?_map, has]; rfl), ?_⟩
    refine ⟨a0, 5, _, rfl, rfl, ha0, by decide, by decide, sz (by rw [List.length_map]; have := hokt.1; show t0.length * 5 ≤ 1000; omega), fun a4 G8 n4 s8 l4 => ?_⟩
    refine ⟨5, rfl, a4, _, rfl, SqL.of l4, fun a5 n5 => ?_⟩
    have S8 := S7.trans s8
    have S9 : Same G1 (L2.upd G8 a5 (.lst (cutV (List.replicate (Int.toNat 5) (t0.map V.str)).flatten none (some 5)))) := S8.trans (Qh.Same.new n5)
    have erep5 : cutV (List.replicate (Int.toNat 5) (t0.map V.str)).flatten none (some 5) = (((List.replicate 5 t0).flatten).take 5).map V.str := by
      show cutV (List.replicate 5 (t0.map V.str)).flatten none (some ((5 : Nat) : Int)) = _
      rw [cut_take, List.map_take, List.map_flatten, List.map_replicate]
    have ok5 : okTs (((List.replicate 5 t0).flatten).take 5) := ⟨by rw [List.length_take]; omega, fun y hy => by
      obtain ⟨z, hz, hy⟩ := List.mem_flatten.mp (List.mem_of_mem_take hy)
      rw [(List.mem_replicate.mp hz).2] at hy
      exact hokt.2 y hy⟩
    generalize ((List.replicate 5 t0).flatten).take 5 = t5 at erep5 ok5
    have l5 : (L2.upd G8 a5 (.lst (cutV (List.replicate (Int.toNat 5) (t0.map V.str)).flatten none (some 5)))) a5 = some (.lst (t5.map V.str)) := by rw [upd_same, erep5]
    generalize L2.upd G8 a5 (.lst (cutV (List.replicate (Int.toNat 5) (t0.map V.str)).flatten none (some 5))) = G9 at S9 l5
    refine ⟨by show 1 ≤ sizeLine; decide, fun a6 G10 n6 s10 l6 => ?_⟩
    have S10 := S9.trans s10
    refine ⟨_, rfl, 1, rfl, q, _, rfl, SqL.of (HQ S10).1, fun a7 n7 => ?_⟩
    have s11 : Same G10 (L2.upd G10 a7 (.lst (cutV (as.map V.ref) (some 1) none))) := Qh.Same.new n7
    have l7 : (L2.upd G10 a7 (.lst (cutV (as.map V.ref) (some 1) none))) a7 = some (.lst ((as.drop 1).map V.ref)) := by rw [upd_same, show (some (1 : Int)) = some ((1 : Nat) : Int) from rfl, cut_drop, ← List.map_drop]
    generalize L2.upd G10 a7 (.lst (cutV (as.map V.ref) (some 1) none)) = G11 at s11 l7
    have S11 := S10.trans s11
    refine ⟨a6, a7, _, _, rfl, rfl, s11 _ _ l6, l7, sz (by rw [List.length_map, List.length_drop]; show 1 + _ ≤ 1000; omega), fun a8 G12 n8 s12 l8 => ?_⟩
    have S12 := S11.trans s12
    refine ⟨a8, t5 :: r.drop 1, rfl, ⟨a5 :: as.drop 1, l8, .cons (s12 _ _ (s11 _ _ (s10 _ _ l5))) ((HQ S12).2.drop 1)⟩, Nat.le_trans (rule_small (all_cons ok5 fun ts ht => hok ts (List.mem_of_mem_drop ht))) (by rw [List.length_cons, List.length_drop]; omega), fun G13 s13 => ?_⟩
    have S13 := S12.trans s13
    have o1 : okS (ruleText (r.take 1)) := (text_ok (fun ts ht => hok ts (List.mem_of_mem_take ht)) (by rw [List.length_take]; omega)).1
    have o2 : okS (ruleText (((List.replicate 3 r).flatten).take 5)) := (text_ok hok5 (by rw [List.length_take]; omega)).1
    have o3 : okS (ruleText (t5 :: r.drop 1)) := (text_ok (all_cons ok5 fun ts ht => hok ts (List.mem_of_mem_drop ht)) (by rw [List.length_cons, List.length_drop]; omega)).1
    generalize ruleText (r.take 1) = x1 at o1
    generalize ruleText (((List.replicate 3 r).flatten).take 5) = x2 at o2
    generalize ruleText (t5 :: r.drop 1) = x3 at o3
    refine ⟨by show 3 ≤ sizeLine; decide, fun b1 G14 m1 s14 k1 => ?_⟩
    have S14 := S13.trans s14
    -- the second row
    refine ⟨_, rfl, by show 1 ≤ sizeLine; decide, fun c1 G15 w1 s15 e1 => ?_⟩
    refine ⟨by show 1 ≤ sizeLine; decide, fun c2 G16 w2 s16 e2 => ?_⟩
    have S16 := (S14.trans s15).trans s16
    refine ⟨_, rfl, c2, q, _, _, rfl, rfl, e2, (HQ S16).1, sz (by rw [List.length_map]; show 1 + _ ≤ 1000; omega), fun c3 G17 w3 s17 e3 => ?_⟩
    have S17 := S16.trans s17
    have okl : okTs [Str.ofString "abcdefghijk"] := ⟨by decide, all_cons (by decide +kernel) all_nil⟩
    refine ⟨c3, [Str.ofString "abcdefghijk"] :: r, rfl, ⟨c1 :: as, e3, .cons (s17 _ _ (s16 _ _ e1)) (HQ S17).2⟩, Nat.le_trans (rule_small (all_cons okl hok)) (by rw [List.length_cons]; omega), fun G18 s18 => ?_⟩
    have S18 := S17.trans s18
    have o4 : okS (ruleText ([Str.ofString "abcdefghijk"] :: r)) := (text_ok (all_cons okl hok) (by rw [List.length_cons]; omega)).1
    generalize ruleText ([Str.ofString "abcdefghijk"] :: r) = x4 at o4
    have big : ∀ {z : Str}, z.length ≤ 5 → line.length + (line.length + 1) * z.length ≤ 16777216 := fun {z} h => by
      have : (line.length + 1) * z.length ≤ 1001 * 5 := Nat.mul_le_mul (by omega) h
      omega
    refine ⟨_, rfl, line, rfl, big (by decide +kernel), _, rfl, line, rfl, big (by decide +kernel), by show 3 ≤ sizeLine; decide, fun c4 G19 w4 s19 e4 => ?_⟩
    have S19 := S18.trans s19
    refine ⟨b1, c4, _, _, rfl, rfl, s19 _ _ (s18 _ _ (s17 _ _ (s16 _ _ (s15 _ _ k1)))), e4, by show 6 ≤ sizeLine; decide, fun b2 G20 m2 s20 k2 => ?_⟩
    have S20 := S19.trans s20
    -- the third row
    have A1 := okS_add (x := line) (y := Str.ofString " =") hline (by decide +kernel)
    have A2 := okS_add (x := Str.ofString "= ") (y := line) (by decide +kernel) hline
    have A3 := okS_add (x := line) (y := Str.ofString " ") hline (by decide +kernel)
    have A4 := okS_add (x := Str.ofString " ") (y := line) (by decide +kernel) hline
    have A5 := okS_add (x := line) (y := Str.ofString "\n") hline (by decide +kernel)
    refine ⟨_, rfl, _, rfl, line, rfl, big (by decide +kernel), _, rfl, _, _, rfl, rfl, A1.2, _, rfl, _, _, rfl, rfl, A2.2, _, rfl, _, _, rfl, rfl, A3.2, _, rfl, _, _, rfl, rfl, A4.2, by show 5 ≤ sizeLine; decide, fun c5 G21 w5 s21 e5 => ?_⟩
    have S21 := S20.trans s21
    refine ⟨b2, c5, _, _, rfl, rfl, s21 _ _ k2, e5, by show 11 ≤ sizeLine; decide, fun b3 G22 m3 s22 k3 => ?_⟩
    have S22 := S21.trans s22
    -- the fourth row
    refine ⟨_, rfl, _, rfl, line, rfl, big (by decide +kernel), _, rfl, _, _, rfl, rfl, A5.2, by show 1 ≤ sizeLine; decide, fun c6 G23 w6 s23 e6 => ?_⟩
    have S23 := S22.trans s23
    refine ⟨by show 10 ≤ sizeLine; decide, fun c7 G24 w7 s24 e7 => ?_⟩
    have S24 := S23.trans s24
    refine ⟨b3, c7, _, _, rfl, rfl, s24 _ _ (s23 _ _ k3), e7, by show 21 ≤ sizeLine; decide, fun b4 G25 m4 s25 k4 => ?_⟩
    have S25 := S24.trans s25
    -- the last row
    refine ⟨_, rfl, _, rfl, by show 1 ≤ sizeLine; decide, fun c8 G26 w8 s26 e8 => ?_⟩
    intro c9 G27 w9 s27 e9
    refine ⟨by show 2 ≤ sizeLine; decide, fun c10 G28 w10 s28 e10 => ?_⟩
    refine ⟨by show 6 ≤ sizeLine; decide, fun c11 G29 w11 s29 e11 => ?_⟩
    have t29 : Same G25 G29 := ((s26.trans s27).trans s28).trans s29
    refine ⟨b4, c11, _, _, rfl, rfl, t29 _ _ k4, e11, by show 27 ≤ sizeLine; decide, fun b5 G30 m5 s30 k5 => ?_⟩
    have S29 := S25.trans t29
    have S30 := S29.trans s30
    have P30 := P1.same S30
    refine ⟨p, l, b5, c + 24, _, rfl, P30, by omega, (P1.same S29).ne m5, SqL.of k5, by show 0 < 27; decide, by show 27 ≤ 1000000; decide, fun v G31 hv kp31 P31 => k v G31 (OddV.kp ?_ kp31) ?_ ?_ (P31.mono (by omega))⟩
    · have lst : ∀ {a : Addr} {xs : List V} {H H' : Hp}, Same G1 H → H a = none → Same H' G30 → H' a = some (.lst xs) → OddV G30 p (.ref a) := fun s n s' e => .inr (.inr (.inr (.inr ⟨_, _, rfl, (P1.same s).ne n, s' _ _ e, .inl ⟨_, rfl⟩⟩)))
      have tup : ∀ {a : Addr} {xs : List V} {H H' : Hp}, Same G1 H → H a = none → Same H' G30 → H' a = some (.tup xs) → OddV G30 p (.ref a) := fun s n s' e => .inr (.inr (.inr (.inr ⟨_, _, rfl, (P1.same s).ne n, s' _ _ e, .inr (.inl ⟨_, rfl⟩)⟩)))
      have dct : ∀ {a : Addr} {kvs : List (Key × V)} {H H' : Hp}, Same G1 H → H a = none → Same H' G30 → H' a = some (.dK kvs) → OddV G30 p (.ref a) := fun s n s' e => .inr (.inr (.inr (.inr ⟨_, _, rfl, (P1.same s).ne n, s' _ _ e, .inr (.inr ⟨_, rfl⟩)⟩)))
      have oN : okS (Str.ofString "") ∧ okS (Str.ofString "=") ∧ okS (Str.ofString "a") ∧ okS (Str.ofString " = ") ∧ okS (Str.ofString "a = b1") ∧ okS (Str.ofString "a = *") ∧ okS (Str.ofString "a = -") := by
        unfold okS
        decide +kernel
      obtain ⟨n1, n2, n3, n4, n5, n6, n7⟩ := oN
      have hr1 : ∀ {y z : Str}, 1 ≤ y.length → z.length ≤ 3 ∧ sg z = true → okS (Txt.replace line y z) := fun hy hz => okS_rep hline hy hz.1 hz.2
      have hr5 : okS (Txt.replace line (Str.ofString " = ") (Str.ofString " = = ")) := by
        have h := Qm.replace_len line (Str.ofString " = ") (Str.ofString " = = ")
        have h2 : (line.length + 1) * (Str.ofString " = = ").length ≤ 1001 * 5 := Nat.mul_le_mul (by omega) (by decide +kernel)
        refine ⟨?_, allc_replace (by decide +kernel) hline.2 (by decide +kernel)⟩
        have : line.length ≤ 315 := hlen315
        have h3 : (line.length + 1) * (Str.ofString " = = ").length ≤ 316 * 5 := Nat.mul_le_mul (by omega) (by decide +kernel)
        omega
      refine all_two (all_two (all_two (all_two (all_cons (.str o1) (all_cons (.str o2) (all_cons (.str o3) all_nil))) (all_cons (.str o4) (all_cons (.str (hr1 (by decide +kernel) (by decide +kernel))) (all_cons (.str (hr1 (by decide +kernel) (by decide +kernel))) all_nil))))
        (all_cons (.str hr5) (all_cons (.str A1.1) (all_cons (.str A2.1) (all_cons (.str A3.1) (all_cons (.str A4.1) all_nil))))))
        (all_cons (.str (hr1 (by decide +kernel) (by decide +kernel))) (all_cons (.str A5.1) (all_cons (.str n1) (all_cons (.str n2) (all_cons (.str n3) (all_cons (.str n4) (all_cons (.inr (.inl rfl)) (all_cons (.inr (.inr (.inr (.inl ⟨_, rfl⟩)))) (all_cons (.inr (.inr (.inl ⟨_, rfl⟩))) (all_cons (tup S22 w6 ((s24.trans s25).trans (t29.trans s30)) e6) all_nil)))))))))))
        (all_cons (lst S25 w8 (((s27.trans s28).trans s29).trans s30) e8) (all_cons (dct (S25.trans s26) w9 ((s28.trans s29).trans s30) e9) (all_cons (tup ((S25.trans s26).trans s27) w10 (s29.trans s30) e10) (all_cons (.str n5) (all_cons (.str n6) (all_cons (.str n7) all_nil)))))) v hv
    · have new : ∀ {b : Addr} {H : Hp}, Same G1 H → H b = none → ∀ c, V.ref b = .ref c → G c = none := fun s n c e => by
        cases e
        exact (kp1.trans (Kp.same s)).free ((P1.same s).ne n) n
      have str : ∀ {x : Str} (b : Addr), V.str x = .ref b → G b = none := fun b e => nomatch e
      exact all_two (q := fun v => ∀ b, v = V.ref b → G b = none) (all_two (all_two (all_two (all_cons str (all_cons str (all_cons str all_nil))) (all_cons str (all_cons str (all_cons str all_nil))))
        (all_cons str (all_cons str (all_cons str (all_cons str (all_cons str all_nil))))))
        (all_cons str (all_cons str (all_cons str (all_cons str (all_cons str (all_cons str (all_cons (by intro b e; cases e) (all_cons (by intro b e; cases e) (all_cons (by intro b e; cases e) (all_cons (new S22 w6) all_nil)))))))))))
        (all_cons (new S25 w8) (all_cons (new (S25.trans s26) w9) (all_cons (new ((S25.trans s26).trans s27) w10) (all_cons str (all_cons str (all_cons str all_nil)))))) v hv
    · exact (kp1.trans (Kp.same S30)).trans kp31
end
end K08
set_option Elab.async false
set_option linter.all false
set_option maxRecDepth 100000
set_option maxHeartbeats 4000000
namespace K08
open PySem PySem.Spec PyProof.Rows L2 TL Qh
abbrev sDue : Stmt := top 32
def spDue (K : PySem.W.Frag) : Sp := fun vs G Q _ => ∃ (a : Addr) (xs : List V) (kv : V), vs = [.ref a, kv] ∧ SqL K G a xs ∧ xs.length ≤ 9 ∧ (∀ v ∈ xs, ∀ G', Same G G' → KnownT K G' v) ∧ (∀ G', Same G G' → KeepV K G' kv) ∧
  (dueX xs kv = none → ∀ G', Same G G' → Q .non G') ∧ ∀ reason i, dueX xs kv = some (reason, i) → ∀ q G', Same G G' → G' q = some (.tup [.str reason, ixV i]) → Q (.ref q) G'
section
variable {P : Program} {w : World} {K : PySem.W.Frag} {mg : Str → Option Value} {base : Heap}
abbrev dueN : List Str := ["_law_some", "_law_held", "_law_wrong", "_law_k"]
theorem scDue : FnScope dueN ["_law_some", "_law_held"] (defScope sDue) := ⟨rfl, rfl, rfl, by decide +kernel, rfl, by decide +kernel, by decide +kernel⟩
theorem ok_due (D : DefIn K mg "_law_due" sDue) (B : Blt mg) (F__law_read : Ok P w K mg base "_law_read" (defArgs sRead) ["_law_value"] 2 (spRead K)) :
    Ok P w K mg base "_law_due" (defArgs sDue) ["_law_some", "_law_held"] 3 (spDue K) := by
  refine D.ok scDue (fun vs G Q E h => ?_) (fun _ _ _ _ _ _ us hl => match us, hl with | [_, _], _ => rfl) (fun f cdv A out t G vs Q E hr h => ?_)
  · obtain ⟨a, xs, kv, rfl, _⟩ := h
    rfl
  · obtain ⟨a, xs, kv, rfl, hS, hn, hk, hkv, kN, kS⟩ := h
    have hu64 := hr.units
    refine ⟨_, (pss_cons (ps_if (pt_not (pt_chain op_le op_le pe_int (pe_callB call_len (by rfl) B.n_len bt_len (pa_cons (pv 0) pa_nil)) pe_int)) (pss_one (ps_ret (pn_tup (pa_cons pe_str (pa_cons pe_non pa_nil))))) pss_nil)
    (pss_cons (ps_setLc (i := 2) (own := [("_law_k", 3)]) (tt := _) rfl scDue.nd rfl rfl (sw_true rfl rfl rfl (by decide +kernel)) (pi_range1 (by rfl) B.n_range (pa_cons (pe_callB call_len (by rfl) B.n_len bt_len (pa_cons (pv 0) pa_nil)) pa_nil)) (blkOk_by (N := dueN) (sc := defScope sDue) (by decide +kernel)) (fun _ _ _ _ _ => pg_name (i := 3) scDue.nd rfl (by first | exact Or.inl rfl | exact Or.inr rfl)) (fun _ _ _ _ _ => pts_one (pt_cmpR op_isN (pe_own F__law_read (hr.mono (by decide)) takes0 (pa_cons (pe_ix (r := rIxL K) ix_list (pv 0) (pv 3) (fun _ _ => rfl)) pa_nil)) pe_non (nomark _))) (fun _ _ _ _ _ => (pv 3)))
    (pss_cons (ps_if (pt_cmpR (op_neD hu64) (pv 2) (pn_lst pa_nil) (nomark _)) (pss_one (ps_ret (pn_tup (pa_cons pe_str (pa_cons (pe_ix ix_list (pv 2) pe_int (fun _ _ => rfl)) pa_nil))))) pss_nil)
    (pss_one (ps_ret (pe_ifExp (pt_val (pe_callB call_isi (by rfl) B.n_isinstance bt_isinstance (pa_cons (pv 1) (pa_cons (pe_bltn (v := .ty "bool") (by rfl) B.n_bool bt_bool rfl) pa_nil)))) pe_non (pn_tup (pa_cons pe_str (pa_cons pe_non pa_nil))))))))), ?_⟩
    have rules : (decide ((1 : Int) ≤ (xs.length : Int)) && decide ((xs.length : Int) ≤ 8)) = false → dueX xs kv = some (Str.ofString "rules", none) := fun h => by
      unfold dueX
      rw [h]
      rfl
    have tell : ∀ (reason : Str) (i : Option Nat), dueX xs kv = some (reason, i) → ∀ G1, Same G G1 → 2 ≤ sizeLine ∧ ∀ p G', G1 p = none → Same G1 G' → G' p = some (.tup [.str reason, ixV i]) → Q (.ref p) G' := fun reason i h G1 s1 => ⟨by decide, fun p G' _ s e => kS reason i h p G' (s1.trans s) e⟩
    refine ⟨_, rfl, .ref a, _, rfl, .inl ⟨_, hS, rfl⟩, _, _, rfl, rfl, _, rfl, ?_⟩
    refine ite2 (fun h1 => ?_) (fun h1 => ?_)
    case refine_2 =>
      refine ⟨_, rfl, iteT ?_⟩
      exact tell _ none (rules (by rw [Bool.eq_false_iff.mpr h1, Bool.false_and])) G (Same.refl G)
    refine ⟨_, _, rfl, rfl, _, rfl, ?_⟩
    refine ite2 (fun h2 => ?_) (fun h2 => ?_)
    · have h2 : decide ((xs.length : Int) ≤ 8) = false := by simpa using h2
      exact tell _ none (rules (by rw [h2, Bool.and_false])) G (Same.refl G)
    have h2 : decide ((xs.length : Int) ≤ 8) = true := by simpa using h2
    have h12 : (decide ((1 : Int) ≤ (xs.length : Int)) && decide ((xs.length : Int) ≤ 8)) = true := by rw [h1, h2]; rfl
    refine ⟨_, rfl, .ref a, _, rfl, .inl ⟨_, hS, rfl⟩, _, rfl, by omega, by omega, fun D hD => ?_⟩
    have en : ((xs.length : Int)).toNat = xs.length := rfl
    rw [en]
    refine lc_range (fun i G' => Same G G' ∧ G' D = some (.lst (((List.range i).filter fun k => ((xs.map ruleV).getD k none).isNone).map fun k : Nat => V.int (k : Int)))) ⟨Qh.Same.new hD, by rw [upd_same]; rfl⟩ ?_ ?_
    · rintro i G5 hi ⟨sm, hl⟩
      have hi' : i < xs.length := hi
      have hg : xs[i]? = some xs[i] := List.getElem?_eq_getElem hi'
      have hgd : (xs.map ruleV).getD i none = ruleV xs[i] := by
        rw [List.getD_eq_getElem?_getD, List.getElem?_map, hg]
        rfl
      have hmem : xs[i] ∈ xs := List.getElem_mem hi'
      have er : (List.range (i + 1)).filter (fun k => ((xs.map ruleV).getD k none).isNone) = (List.range i).filter (fun k => ((xs.map ruleV).getD k none).isNone) ++ (if (ruleV xs[i]).isNone = true then [i] else []) := by
        rw [List.range_succ, List.filter_append, List.filter_cons, hgd]
        cases (ruleV xs[i]).isNone <;> rfl
      refine ⟨rfl, ?_⟩
      refine ⟨_, rfl, _, rfl, a, _, _, xs[i], rfl, rfl, sm.seq hS, ?_, xs[i], rfl, hk _ hmem G5 sm, fun e G6 s6 => ?_, fun r e q G6 s6 ra => ?_⟩
      · rw [Int.zero_add]
        exact atI_nat hg
      · refine ⟨rfl, _, rfl, iteT ⟨_, rfl, _, s6 _ _ hl, ?_, Qh.Same.fresh (sm.trans s6) hD, ?_⟩⟩
        · rw [List.length_map]
          have h1 := List.length_filter_le (fun k => ((xs.map ruleV).getD k none).isNone) (List.range i)
          rw [List.length_range] at h1
          exact big_line' (by omega)
        · rw [upd_same, er, e, if_pos (show (none : Option (List (List Str))).isNone = true from rfl), List.map_append, Int.zero_add]
          rfl
      · refine ⟨rfl, _, rfl, iteF ⟨sm.trans s6, ?_⟩⟩
        rw [er, e, if_neg (show ¬ (some r).isNone = true from fun z => nomatch z), List.append_nil]
        exact s6 _ _ hl
    · rintro G5 ⟨sm, hl⟩
      have hf := first_of (q := fun o => o.isNone) (z := none) (xs := xs.map ruleV) _ rfl
      rw [List.length_map] at hf
      generalize (List.range xs.length).filter (fun k => ((xs.map ruleV).getD k none).isNone) = cs at hl hf
      have ev : cs.map (fun k : Nat => V.int (k : Int)) = (cs.map fun k : Nat => (k : Int)).map V.int := by
        rw [List.map_map]
        rfl
      refine ⟨_, rfl, by show 0 ≤ sizeLine; decide, fun q6 G6 n6 s6 l6 => ?_⟩
      have hl6 := s6 _ _ hl
      rw [ev] at hl6
      refine ⟨_, .list [], .lst (SqL.of hl6) (dp_ints _), .lst (SqL.of l6) .nil, shaped_ints _, rfl, _, rfl, ?_⟩
      rw [eqv_nil_r]
      have sm6 := sm.trans s6
      cases cs with
      | cons j r =>
        refine ⟨_, rfl, D, _, 0, .int (j : Int), rfl, rfl, SqL.of hl6, atI_nat (j := 0) rfl, ?_⟩
        refine tell (Str.ofString "rule") (some j) ?_ G6 sm6
        unfold dueX
        rw [if_pos h12, hf]
        rfl
      | nil =>
        have due : dueX xs kv = if isBl kv then none else some (Str.ofString "keep", none) := by
          unfold dueX
          rw [if_pos h12, hf]
          rfl
        rcases hkv G6 sm6 with ⟨b, rfl⟩ | ⟨hnb, ty, hty, hkit⟩
        · refine ⟨_, rfl, _, _, _, _, _, rfl, .ty _, .base (.bl b), kit_ty (r := true) (by decide +kernel), _, rfl, ?_⟩
          exact iteT (kN due G6 sm6)
        · refine ⟨_, rfl, _, _, _, _, _, rfl, .ty _, hty, hkit, _, rfl, ?_⟩
          refine iteF (tell (Str.ofString "keep") none ?_ G6 sm6)
          rw [due]
          cases e : isBl kv with
          | false => rfl
          | true =>
            obtain ⟨b, hb⟩ := isBl_yes e
            exact absurd hb (hnb b)
end
end K08
set_option Elab.async false
set_option linter.all false
set_option maxRecDepth 100000
set_option maxHeartbeats 4000000
/-! Rules told as texts, read back; data of rules compared; repr of plain texts. -/
namespace K08
open PySem PySem.Spec PySem.Builtin PySem.Builtin.Str PyProof.Rows L2 TL Qh Qm
theorem eqvAll_inj {α : Type} [DecidableEq α] {f : α → PyData} (h : ∀ a b, PyData.eqv (f a) (f b) = decide (a = b)) : ∀ xs ys : List α, PyData.eqvAll (xs.map f) (ys.map f) = decide (xs = ys)
  | [], [] => by
    show PyData.eqvAll [] [] = _
    rw [PyData.eqvAll]
    rfl
  | [], y :: ys => by
    show PyData.eqvAll [] (_ :: _) = _
    rw [PyData.eqvAll]
    rfl
  | x :: xs, [] => by
    show PyData.eqvAll (_ :: _) [] = _
    rw [PyData.eqvAll]
    rfl
  | x :: xs, y :: ys => by
    show PyData.eqvAll (f x :: xs.map f) (f y :: ys.map f) = _
    rw [PyData.eqvAll, h, eqvAll_inj h xs ys]
    by_cases h1 : x = y
    · by_cases h2 : xs = ys
      · simp [h1, h2]
      · simp [h1, h2]
    · simp [h1]
theorem eqv_str (a b : Str) : PyData.eqv (.str a) (.str b) = decide (a = b) := by
  rw [PyData.eqv]
  by_cases h : a = b
  · simp [h]
  · simp [h]
theorem eqv_side (a b : List Str) : PyData.eqv (.tuple (a.map PyData.str)) (.tuple (b.map PyData.str)) = decide (a = b) := by
  rw [PyData.eqv]
  exact eqvAll_inj eqv_str a b
def ruleD (r : List (List Str)) : PyData := .tuple (r.map fun ts => .tuple (ts.map PyData.str))
theorem eqv_rule (a b : List (List Str)) : PyData.eqv (ruleD a) (ruleD b) = decide (a = b) := by
  unfold ruleD
  rw [PyData.eqv]
  exact eqvAll_inj eqv_side a b
theorem eqv_rules (a b : List (List (List Str))) : PyData.eqv (.tuple (a.map ruleD)) (.tuple (b.map ruleD)) = decide (a = b) := by
  rw [PyData.eqv]
  exact eqvAll_inj eqv_rule a b
/-! ### join and split -/
theorem joinL_cons (S p : List Nat) (q : List Nat) (r : List (List Nat)) : joinL S (p :: q :: r) = p ++ (S ++ joinL S (q :: r)) := rfl
theorem spl_ne (S : List Nat) : ∀ (l : List Nat) (k : Nat) (acc : List Nat), spl S k acc l ≠ []
  | [], k, acc => by
    rw [spl_nil]
    exact fun z => nomatch z
  | c :: r, 0, acc => by
    by_cases h : pre S (c :: r) = true
    · rw [spl_hit h]
      exact fun z => nomatch z
    · rw [spl_miss (by simpa using h)]
      exact spl_ne S r 0 _
  | c :: r, k + 1, acc => by
    have e : spl S (k + 1) acc (c :: r) = spl S k acc r := rfl
    rw [e]
    exact spl_ne S r k acc
theorem join_spl3 : ∀ (l acc : List Nat), joinL S3 (spl S3 0 acc l) = acc ++ l
  | [], acc => by
    rw [spl_nil]
    simp [joinL]
  | [a], acc => by
    have h : pre S3 [a] = false := by
      unfold pre
      rw [beq_eq_false_iff_ne]
      intro z
      have z : a :: [] = [32, 61, 32] := z
      cases z
    rw [spl_miss h, spl_nil]
    rfl
  | [a, b], acc => by
    have h : pre S3 [a, b] = false := by
      unfold pre
      rw [beq_eq_false_iff_ne]
      intro z
      have z : [a, b] = [32, 61, 32] := z
      cases z
    rw [spl_miss h, join_spl3 [b] (acc ++ [a])]
    simp
  | a :: b :: c :: r, acc => by
    by_cases h : pre S3 (a :: b :: c :: r) = true
    · have e : a = 32 ∧ b = 61 ∧ c = 32 := by
        unfold pre at h
        have h := beq_iff_eq.mp h
        have h : [a, b, c] = [32, 61, 32] := h
        injection h with h1 h
        injection h with h2 h
        injection h with h3 h
        exact ⟨h1, h2, h3⟩
      rw [spl_hit h]
      have ih := join_spl3 r []
      have ne := spl_ne S3 r 0 []
      have e2 : spl S3 (S3.length - 1) [] (b :: c :: r) = spl S3 0 [] r := rfl
      rw [e2]
      cases hs : spl S3 0 [] r with
      | nil => exact absurd hs ne
      | cons p q =>
        rw [hs] at ih
        rw [joinL_cons, ih, e.1, e.2.1, e.2.2]
        rfl
    · rw [spl_miss (by simpa using h), join_spl3 (b :: c :: r) (acc ++ [a])]
      simp
/-- a rule's text, told again from its sides -/
theorem text_sides (x : Str) : ruleText (sidesOf x) = x := by
  have te : tl eqs = S3 := by decide +kernel
  have ke : eqs.cps.all (· < 256) = true := by decide +kernel
  apply ext_tl
  unfold ruleText sidesOf
  rw [join_eq, tl_join, te, List.map_map, List.map_map]
  have h1 : (Txt.split x eqs).map tl = spl S3 0 [] (tl x) := by
    have h := split_spl x eqs (by rw [te]; simp) (kind_ok ke)
    rw [te] at h
    exact h
  have h2 : (Txt.split x eqs).map ((tl ∘ Txt.join blank) ∘ partsOf) = (Txt.split x eqs).map tl := List.map_congr_left fun y _ => by
    show tl (Txt.join blank (partsOf y)) = tl y
    rw [join_eq, tl_join, tl_blank, Qh.parts_spl, join_parts, List.nil_append]
  have h3 : List.map (tl ∘ Txt.join blank ∘ partsOf) (Txt.split x eqs) = (Txt.split x eqs).map tl := h2
  first
    | rw [h3]
    | rw [h2]
  rw [h1, join_spl3, List.nil_append]
theorem rule_text_of {x : Str} {r : List (List Str)} (h : ruleS x = some r) : ruleText r = x := by
  unfold ruleS at h
  split at h
  · rw [← Option.some.inj h]
    exact text_sides x
  · cases h
/-- a rule's words in a row, = between the sides -/
def flatW : List (List Str) → List Str
  | [] => []
  | [w] => w
  | w :: v :: r => w ++ (eqS :: flatW (v :: r))
theorem joinL_app (p : List Nat) : ∀ a : List (List Nat), ∀ b : List (List Nat), b ≠ [] → joinL [32] (a ++ (p :: b)) = joinL [32] (a ++ [p]) ++ (32 :: joinL [32] b)
  | [], b, h => by
    cases b with
    | nil => exact absurd rfl h
    | cons q r => rfl
  | [x], b, h => by
    cases b with
    | nil => exact absurd rfl h
    | cons q r =>
      show x ++ ([32] ++ (p ++ ([32] ++ joinL [32] (q :: r)))) = (x ++ ([32] ++ p)) ++ (32 :: joinL [32] (q :: r))
      simp
  | x :: y :: a, b, h => by
    have ih := joinL_app p (y :: a) b h
    show x ++ ([32] ++ joinL [32] ((y :: a) ++ (p :: b))) = (x ++ ([32] ++ joinL [32] ((y :: a) ++ [p]))) ++ (32 :: joinL [32] b)
    rw [ih]
    simp
theorem text_flat : ∀ r : List (List Str), (∀ ts ∈ r, ts ≠ []) → tl (ruleText r) = joinL [32] ((flatW r).map tl)
  | [], _ => by decide +kernel
  | [w], _ => by
    show tl (Txt.join eqs [Txt.join blank w]) = _
    rw [join_eq, tl_join]
    show tl (Txt.join blank w) = joinL [32] (w.map tl)
    rw [join_eq, tl_join, tl_blank]
  | w :: v :: r, h => by
    have ih := text_flat (v :: r) fun ts ht => h ts (List.mem_cons_of_mem _ ht)
    have te : tl eqs = S3 := by decide +kernel
    have hw := h w List.mem_cons_self
    have hne : flatW (v :: r) ≠ [] := by
      have hv := h v (List.mem_cons_of_mem _ List.mem_cons_self)
      cases r with
      | nil => exact hv
      | cons a b =>
        show v ++ (eqS :: flatW (a :: b)) ≠ []
        simp
    have e1 : tl (ruleText (w :: v :: r)) = tl (Txt.join blank w) ++ (S3 ++ tl (ruleText (v :: r))) := by
      unfold ruleText
      rw [join_eq, tl_join, join_eq eqs, tl_join, te]
      rfl
    have e2 : tl (Txt.join blank w) = joinL [32] (w.map tl) := by rw [join_eq, tl_join, tl_blank]
    show _ = joinL [32] ((w ++ (eqS :: flatW (v :: r))).map tl)
    rw [e1, ih, e2, List.map_append, List.map_cons, joinL_app _ _ _ (fun z => hne (List.map_eq_nil_iff.mp z)), tl_eqS, join_snoc [61] _ (fun z => hw (List.map_eq_nil_iff.mp z))]
    simp
theorem wordS_blank {y : Str} (h : wordS y = true) : 32 ∉ tl y := clean_blank (word_clean h)
theorem wordS_eq {y : Str} (h : wordS y = true) : y ≠ eqS := fun e => word_no_eq h (by rw [e]; exact tl_eqS)
theorem sideS_ne {ts : List Str} (h : sideS ts = true) : ts ≠ [] := fun e => by
  rw [e] at h
  exact absurd h (by decide)
theorem sideS_word {ts : List Str} (h : sideS ts = true) : ∀ y ∈ ts, wordS y = true := fun y hy => by
  unfold sideS at h
  exact List.all_eq_true.mp (Bool.and_eq_true_iff.mp h).2 y hy
theorem group_words : ∀ (ws cur r : List Str), (∀ y ∈ ws, y ≠ eqS) → groupT cur (ws ++ r) = groupT (cur ++ ws) r
  | [], cur, r, _ => by simp
  | y :: ws, cur, r, h => by
    show groupT cur (y :: (ws ++ r)) = _
    rw [group_no (h y List.mem_cons_self), group_words ws (cur ++ [y]) r fun z hz => h z (List.mem_cons_of_mem _ hz)]
    simp
theorem group_flat : ∀ r : List (List Str), r ≠ [] → (∀ ts ∈ r, ∀ y ∈ ts, y ≠ eqS) → groupT [] (flatW r) = r
  | [], h, _ => absurd rfl h
  | [w], _, h => by
    show groupT [] w = [w]
    have q := group_words w [] [] (h w List.mem_cons_self)
    rw [List.append_nil] at q
    rw [q]
    rfl
  | w :: v :: r, _, h => by
    show groupT [] (w ++ (eqS :: flatW (v :: r))) = _
    rw [group_words w [] _ (h w List.mem_cons_self), group_yes rfl, group_flat (v :: r) (fun z => nomatch z) fun ts ht => h ts (List.mem_cons_of_mem _ ht)]
    rfl
theorem flat_mem : ∀ (r : List (List Str)), ∀ y ∈ flatW r, y = eqS ∨ ∃ ts ∈ r, y ∈ ts
  | [], y, h => by cases h
  | [w], y, h => .inr ⟨w, List.mem_cons_self, h⟩
  | w :: v :: r, y, h => by
    have h : y ∈ w ++ (eqS :: flatW (v :: r)) := h
    rcases List.mem_append.mp h with h | h
    · exact .inr ⟨w, List.mem_cons_self, h⟩
    · rcases List.mem_cons.mp h with h | h
      · exact .inl h
      · rcases flat_mem (v :: r) y h with h | ⟨ts, ht, h⟩
        · exact .inl h
        · exact .inr ⟨ts, List.mem_cons_of_mem _ ht, h⟩
def rightR (r : List (List Str)) : Prop := r.all sideS = true ∧ 2 ≤ r.length ∧ r.length ≤ 4
/-- a right rule, told and read -/
theorem text_rule {r : List (List Str)} (h : rightR r) : ruleS (ruleText r) = some r := by
  obtain ⟨ha, h2, h4⟩ := h
  have hs := fun ts (ht : ts ∈ r) => List.all_eq_true.mp ha ts ht
  have hne : r ≠ [] := fun e => by
    rw [e] at h2
    exact absurd h2 (by decide)
  have hflat : flatW r ≠ [] := by
    match r, hne with
    | [w], _ => exact sideS_ne (hs w List.mem_cons_self)
    | w :: v :: t, _ =>
      show w ++ (eqS :: flatW (v :: t)) ≠ []
      simp
  have hb : ∀ p ∈ flatW r, 32 ∉ tl p := fun p hp => by
    rcases flat_mem r p hp with e | ⟨ts, ht, hy⟩
    · rw [e, tl_eqS]
      decide
    · exact wordS_blank (sideS_word (hs ts ht) p hy)
  have parts : partsOf (ruleText r) = flatW r := by
    have e : ruleText r = Txt.join blank (flatW r) := by
      apply ext_tl
      rw [text_flat r fun ts ht => sideS_ne (hs ts ht), join_eq, tl_join, tl_blank]
    rw [e]
    exact parts_join hflat hb
  rw [← read_rule]
  unfold readS
  rw [parts, group_flat r hne fun ts ht y hy => wordS_eq (sideS_word (hs ts ht) y hy)]
  rw [if_pos ⟨ha, decide_eq_true (by omega), decide_eq_true (by omega)⟩]
theorem right_of {x : Str} {r : List (List Str)} (h : ruleS x = some r) : rightR r := by
  unfold ruleS at h
  split at h
  · rename_i c
    obtain ⟨c1, c2⟩ := Bool.and_eq_true_iff.mp c
    obtain ⟨c3, c4⟩ := Bool.and_eq_true_iff.mp c1
    have c3 := of_decide_eq_true c3
    have c4 := of_decide_eq_true c4
    rw [← Option.some.inj h]
    exact ⟨c2, by omega, by omega⟩
  · cases h
theorem right_rev {r : List (List Str)} (h : rightR r) : rightR r.reverse := ⟨by rw [List.all_reverse]; exact h.1, by rw [List.length_reverse]; exact h.2.1, by rw [List.length_reverse]; exact h.2.2⟩
/-! ### repr of a text of letters, blanks and = -/
def plainC (c : Nat) : Bool := c == 32 || c == 61 || ltr c
theorem repr_char {c : Nat} (h : plainC c = true) : reprChar 39 c = [c] := by
  have all : (List.range 128).all (fun c => !plainC c || decide (reprChar 39 c = [c])) = true := by decide +kernel
  have hc : c < 128 := by
    unfold plainC ltr at h
    simp only [Bool.or_eq_true, beq_iff_eq, Bool.and_eq_true, decide_eq_true_eq] at h
    omega
  have q := List.all_eq_true.mp all c (List.mem_range.mpr hc)
  rw [h] at q
  simpa using q
theorem fold_plain : ∀ (l : List Nat) (acc : Array Nat), l.all plainC = true → (l.foldl (fun out c => out ++ (reprChar 39 c).toArray) acc).toList = acc.toList ++ l
  | [], acc, _ => by simp
  | c :: r, acc, h => by
    rw [List.all_cons] at h
    obtain ⟨h1, h2⟩ := Bool.and_eq_true_iff.mp h
    rw [List.foldl_cons, fold_plain r _ h2, repr_char h1]
    simp
theorem repr_plain {x : Str} (h : (tl x).all plainC = true) : tl (reprText x) = 39 :: (tl x ++ [39]) := by
  have q : reprQuote x = 39 := by
    unfold reprQuote
    have : x.cps.contains 39 = false := by
      rw [Bool.eq_false_iff]
      intro z
      have z : (39 : Nat) ∈ tl x := by
        have := Array.contains_iff_mem.mp z
        simpa using this
      have := List.all_eq_true.mp h 39 z
      exact absurd this (by decide)
    rw [this]
    rfl
  unfold reprText
  rw [q]
  show ((x.cps.foldl (fun out c => out ++ (reprChar 39 c).toArray) #[39]).push 39).toList = _
  rw [Array.toList_push, ← Array.foldl_toList, fold_plain _ _ h]
  rfl
theorem plain_join {S : Str} {ps : List Str} (hs : (tl S).all plainC = true) (h : ∀ p ∈ ps, (tl p).all plainC = true) : (tl (Txt.join S ps)).all plainC = true := by
  rw [List.all_eq_true] at hs ⊢
  intro c hc
  rw [join_eq, tl_join] at hc
  rcases joinL_mem hc with hc | ⟨p, hp, hc⟩
  · exact hs c hc
  · obtain ⟨y, hy, rfl⟩ := List.mem_map.mp hp
    exact List.all_eq_true.mp (h y hy) c hc
theorem word_plain {y : Str} (h : wordS y = true) : (tl y).all plainC = true := by
  unfold wordS lettersS at h
  have h2 : (tl y).all ltr = true := (Bool.and_eq_true_iff.mp h).2
  rw [List.all_eq_true] at h2 ⊢
  intro c hc
  unfold plainC
  rw [h2 c hc]
  simp
theorem rule_plain {r : List (List Str)} (h : r.all sideS = true) : (tl (ruleText r)).all plainC = true :=
  plain_join (by decide +kernel) fun p hp => by
    obtain ⟨ts, ht, rfl⟩ := List.mem_map.mp hp
    exact plain_join (by decide +kernel) fun y hy => word_plain (sideS_word (List.all_eq_true.mp h ts ht) y hy)
theorem repr_rule {r : List (List Str)} (h : r.all sideS = true) : reprText (ruleText r) = Str.ofString "'" ++ ruleText r ++ Str.ofString "'" := by
  apply ext_tl
  rw [repr_plain (rule_plain h), tl_append, tl_append]
  have e : tl (Str.ofString "'") = [39] := by decide +kernel
  rw [e]
  rfl
end K08
set_option Elab.async false
set_option linter.all false
set_option maxRecDepth 100000
set_option maxHeartbeats 4000000
/-! Own ==, !=, str, repr of instances with a dict of their own. -/
namespace Qp
open PySem PySem.Spec PyProof.Rows L2 TL Qh SlX
section
variable {prog : Program} {w : World} {A : Around} {E : Value → Shared → Prop} {s : Shared} {K : PySem.W.Frag} {x C f L : Addr} {h₀ : Heap} {m : Str → Option Value} {ox : Obj} {od : Option Obj} {b tb : Value}
theorem ifBound_B {M : Model} {name : Str} {id : String} {args : List Value} {Q : Option Value → Shared → Prop} (X : K.In s.heap) (I : PySem.W.InstAt s.heap x ox C od) (hs : PySem.W.findIn K (.ref C) name = some (some (.builtin id)))
    (hb : ∀ self, bindSpecial (.builtin id) self = pure (.builtin id, [self])) (h : wpAny M A (call (.builtin id) (.ref x :: args)) (fun v => Q (some v)) E s) : wpAny M A (callSpecialIfBound? (.ref x) name args) Q E s := by
  simp only [callSpecialIfBound?, bindSpecialIfBound?]
  refine wpAny_holding (wpAny_bind (wpAny_bind (wpAny_bind (I.type.here ((PySem.W.looks_findIn X hs).here ?_)))))
  refine wpAny_bind (wpAny_askSetting (wpAny_ite ?_))
  have fin : wpAny M A (call (.builtin id) ([.ref x] ++ args) >>= fun v => pure (some v)) Q E s := wpAny_bind (wpAny_mono h (fun v s' h' => wpAny_pure h') fun _ _ h' => h')
  split
  · exact wpAny_bind (wpAny_of_eq (hb _) (wpAny_pure (by exact fin)))
  · exact wpAny_tryCatch (wpAny_bind (wpAny_of_eq (hb _) (wpAny_pure (by exact fin))))
theorem entry_ne {Q : Fin → Shared → Prop} (hu : A.units < cLine) (X : K.In s.heap) (I : PySem.W.InstAt s.heap x ox C od) (he : PySem.W.findIn K (.ref C) "__eq__" = some (some (.ref f))) (hf : PySem.W.isFn K (.ref f) = true)
    (h : wpAny (model prog w) A (call (.ref f) [.ref x, b]) (fun v s' => ∃ k, v = .bool k ∧ Q (.done (.ret (.bool (!k)))) s') E s) : wpAny (model prog w) A (Builtin.«object.__ne__» ⟨[.ref x, b], []⟩) Q E s := by
  unfold Builtin.«object.__ne__»
  refine wpAny_bind (m := slotArgs "__ne__" 1 _) (wpAny_pure ?_)
  refine wpAny_bind (m := cRoomFor _ _) (wpAny_cRoomFor hu ?_)
  refine wpAny_bind (m := callSpecialIfBound? (.ref x) (Str.ofString "__eq__") _) (PySem.W.ifBound_K X I he hf (wpAny_mono h (fun r s' hr => ?_) fun _ _ y => y))
  obtain ⟨k, rfl, hq⟩ := hr
  repeat (first | exact hq | exact wpAny_pure hq | exact wpAny_truthy_bool hq | (refine wpAny_bind (m := truthy (.bool _)) (wpAny_truthy_bool ?_)) | wp_step)
theorem ne_K {Q : Value → Shared → Prop} (hu : A.units + 1 < cLine) (F : Fr h₀ L s.heap m) (X₀ : K.In h₀) (I : PySem.W.InstAt s.heap x ox C od) (hb : PySem.W.Looks (model prog w) s.heap (typeOf b) tb) (hn : PySem.W.notFirst K C tb = true)
    (hm : PySem.W.mroIn K C (.type "object") = some true) (hs : PySem.W.findIn K (.ref C) "__ne__" = some (some (.builtin "object.__ne__"))) (he : PySem.W.findIn K (.ref C) "__eq__" = some (some (.ref f))) (hf : PySem.W.isFn K (.ref f) = true)
    (h : wpAny (model prog w) A.in1 (call (.ref f) [.ref x, b]) (fun v s' => ∃ k, v = .bool k ∧ Q (.bool (!k)) s') E s) : wpAny (model prog w) A (richCompare .NotEq (.ref x) b) Q E s := by
  have X := X₀.keeps F.keep
  have one : wpAny (model prog w) A (tryCompare (.ref x) (cmpInfo .NotEq).2.1 b) (fun r s' => ∃ v, r = some v ∧ Q v s') E s := by
    unfold tryCompare
    refine wpAny_bind (ifBound_B X I hs PySem.F.cmp_object.ne.bind (wpAny_call (codeAny_call_builtin PySem.F.cmp_object.ne.plain PySem.F.cmpEntry_ne
      (PySem.W.check_slot PySem.F.cmpKind_ne PySem.F.cmpSplit_ne (I.type.andThen (PySem.W.looks_mroIn X hm)) (PySem.F.cmpArgs_ne _ _) (entry_ne (A := A.in1) hu X I he hf (wpAny_mono h (fun v s' hv => ?_) fun _ _ e => e))))))
    obtain ⟨k, rfl, hq⟩ := hv
    first
      | exact ⟨k, rfl, wpAny_pure ⟨_, rfl, hq⟩⟩
      | exact ⟨k, rfl, wpAny_pure (wpAny_pure ⟨_, rfl, hq⟩)⟩
      | exact ⟨k, rfl, ⟨_, rfl, hq⟩⟩
  unfold richCompare
  simp only [oneThing_ref]
  refine wpAny_holding (wpAny_bind (wpAny_cRoomFor (Nat.lt_of_succ_lt hu) ?_))
  refine wpAny_bind (I.type.here (wpAny_bind (hb.here ?_)))
  split
  · rename_i q
    have e : PySem.W.subIn K tb (.ref C) = some false := by
      rcases Bool.or_eq_true_iff.mp hn with e | e
      · rw [beq_iff_eq.mp e] at q; simp at q
      · exact beq_iff_eq.mp e
    refine wpAny_bind ((PySem.W.looks_subIn X e).here ?_)
    simp only [Bool.false_eq_true, if_false]
    refine wpAny_bind (wpAny_mono one (fun r s' z => ?_) fun _ _ e => e)
    obtain ⟨v, rfl, hq⟩ := z
    exact wpAny_pure hq
  · refine wpAny_bind (wpAny_pure ?_)
    simp only [Bool.false_eq_true, if_false]
    refine wpAny_bind (wpAny_mono one (fun r s' z => ?_) fun _ _ e => e)
    obtain ⟨v, rfl, hq⟩ := z
    exact wpAny_pure hq
end
section
variable {X : Cx} {CX : CXT} {C g : Addr} {n : Nat} {sp : Sp} {E : XK}
/-- x op y by an own def of the class at C: x an instance, y of a class that is not below C -/
def rOwnI (K : PySem.W.Frag) (C : Addr) (sp : Sp) (E : XK) : R2 := fun x y H Q => ∃ (a dx : Addr) (fs : List (Str × V)) (t : Value), x = .ref a ∧ H a = some (.ins C dx fs) ∧ TyX K H y t ∧ PySem.W.notFirst K C t = true ∧ sp [x, y] H Q E
theorem op_ownEq (hs : PySem.W.findIn X.K (.ref C) "__eq__" = some (some (.ref g))) (hf : PySem.W.isFn X.K (.ref g) = true) (F : FnR X.prog X.w X.K X.mg X.base CX n g sp) (hr : Room n X.A) (hx : Passes CX X E) : OpR X (compareOp .Eq) (rOwnI X.K C sp E) := by
  intro pins s σ H x y v u Q I rx ry h
  obtain ⟨a, dx, fs, t, rfl, ha, ty, hn, q⟩ := h
  cases (show v = Value.ref a from rx)
  obtain ⟨mA, J, _⟩ := ins_get I.hok ha
  obtain ⟨od, J, _⟩ := J.look
  obtain ⟨Pk, Z, hP, _⟩ := kit_of I ry ty
  obtain ⟨m, hF⟩ := I.fr
  show wpAny (model X.prog X.w) X.A (richCompare .Eq (.ref a) u) _ _ s
  refine PySem.W.cmp_K (op := .Eq) (tb := t) hr.units0 hF I.ok.mod.kin J (Z.ty _ _ I.kIn hP) hn hs hf ?_
  refine wpAny_mono (wpAny_call (run_fnR (us := [.ref a, u]) (vs := [.ref a, y]) F hr hx I (.cons rfl (.cons ry .nil)) q)) (fun w s' z => ?_) fun _ _ x => x
  obtain ⟨z', H', I', rz, qz⟩ := z
  exact cmpback rz ⟨z', H', I', rz, qz⟩
/-- x != y, by the own == -/
def rOwnNe (K : PySem.W.Frag) (C : Addr) (sp : Sp) (E : XK) : R2 := fun x y H Q => ∃ (a dx : Addr) (fs : List (Str × V)) (t : Value), x = .ref a ∧ H a = some (.ins C dx fs) ∧ TyX K H y t ∧ PySem.W.notFirst K C t = true ∧ sp [x, y] H (fun v H' => ∃ k, v = .bl k ∧ Q (.bl (!k)) H') E
theorem op_ownNe (hm : PySem.W.mroIn X.K C (.type "object") = some true) (hne : PySem.W.findIn X.K (.ref C) "__ne__" = some (some (.builtin "object.__ne__"))) (hs : PySem.W.findIn X.K (.ref C) "__eq__" = some (some (.ref g))) (hf : PySem.W.isFn X.K (.ref g) = true)
    (F : FnR X.prog X.w X.K X.mg X.base CX n g sp) (hr : Room (n + 1) X.A) (hx : Passes CX X E) : OpR X (compareOp .NotEq) (rOwnNe X.K C sp E) := by
  intro pins s σ H x y v u Q I rx ry h
  obtain ⟨a, dx, fs, t, rfl, ha, ty, hn, q⟩ := h
  cases (show v = Value.ref a from rx)
  obtain ⟨mA, J, _⟩ := ins_get I.hok ha
  obtain ⟨od, J, _⟩ := J.look
  obtain ⟨Pk, Z, hP, _⟩ := kit_of I ry ty
  obtain ⟨m, hF⟩ := I.fr
  show wpAny (model X.prog X.w) X.A (richCompare .NotEq (.ref a) u) _ _ s
  refine ne_K (tb := t) (by have := hr.un; omega) hF I.ok.mod.kin J (Z.ty _ _ I.kIn hP) hn hm hne hs hf ?_
  refine wpAny_mono (wpAny_call (run_at (us := [.ref a, u]) (ws := [.ref a, y]) F hr.in1 I.env0.in1 hx I (.cons rfl (.cons ry .nil)) q)) (fun w s' z => ?_) fun _ _ x => x
  obtain ⟨z', H', I', rz, k, rfl, qz⟩ := z
  cases (show w = Value.bool k from rz)
  exact ⟨k, rfl, .bl (!k), H', I', rfl, qz⟩
theorem strback {P : Value → Shared → Prop} {z : Str} {v : Value} {s' : Shared} (r : RelV (.str z) v) (h : P v s') : PySem.W.StrBack P v s' := by
  obtain ⟨t, e⟩ := (show ∃ t, v = Value.str z t from r)
  cases e
  exact h
/-- repr(x), str(x) by an own def -/
def rOwn1 (C : Addr) (sp : Sp) (E : XK) : List V → Hp → VK → Prop := fun xs H Q => ∃ (a dx : Addr) (fs : List (Str × V)), xs = [.ref a] ∧ H a = some (.ins C dx fs) ∧ sp [.ref a] H (fun v H' => ∃ z, v = .str z ∧ Q v H') E
theorem call_reprOwn (hs : PySem.W.findIn X.K (.ref C) "__repr__" = some (some (.ref g))) (hf : PySem.W.isFn X.K (.ref g) = true) (F : FnR X.prog X.w X.K X.mg X.base CX n g sp) (hr : Room (n + 1) X.A) (hx : Passes CX X E) : CallR X (.builtin "repr") (rOwn1 C sp E) := by
  intro pins s σ H xs us Q I r h
  obtain ⟨a, dx, fs, rfl, ha, q⟩ := h
  obtain ⟨u, rfl, ru⟩ := vals1 r
  cases (show u = Value.ref a from ru)
  obtain ⟨mA, J, _⟩ := ins_get I.hok ha
  obtain ⟨od, J, _⟩ := J.look
  obtain ⟨m, hF⟩ := I.fr
  refine PySem.W.repr_K hr.in1.units0 hF I.ok.mod.kin J hs hf ?_
  refine wpAny_mono (wpAny_call (run_at (us := [.ref a]) (ws := [.ref a]) F hr.in1 I.env0.in1 hx I (.cons rfl .nil) q)) (fun w s' z => ?_) fun _ _ x => x
  obtain ⟨z', H', I', rz, zz, rfl, qz⟩ := z
  exact strback rz ⟨.str zz, H', I', rz, qz⟩
theorem call_strOwn (hs : PySem.W.findIn X.K (.ref C) "__str__" = some (some (.ref g))) (hf : PySem.W.isFn X.K (.ref g) = true) (F : FnR X.prog X.w X.K X.mg X.base CX n g sp) (hr : Room (n + 2) X.A) (hx : Passes CX X E) : CallR X (.type "str") (rOwn1 C sp E) := by
  intro pins s σ H xs us Q I r h
  obtain ⟨a, dx, fs, rfl, ha, q⟩ := h
  obtain ⟨u, rfl, ru⟩ := vals1 r
  cases (show u = Value.ref a from ru)
  obtain ⟨mA, J, _⟩ := ins_get I.hok ha
  obtain ⟨od, J, _⟩ := J.look
  have hr2 : Room n X.A.in1.in1 := (show Room (n + 1) X.A.in1 from hr.in1).in1
  refine PySem.W.kso_call hr2.units0 I.kIn J hs hf ?_
  refine wpAny_mono (wpAny_call (run_at (us := [.ref a]) (ws := [.ref a]) F hr2 I.env0.in1.in1 hx I (.cons rfl .nil) q)) (fun w s' z => ?_) fun _ _ x => x
  obtain ⟨z', H', I', rz, zz, rfl, qz⟩ := z
  exact strback rz ⟨.str zz, H', I', rz, qz⟩
/-- repr of a text, of None -/
def rReprF : List V → Hp → VK → Prop := fun xs H Q => (∃ y, xs = [.str y] ∧ (reprText y).length ≤ sizeLine ∧ Q (.str (reprText y)) H) ∨ xs = [.non] ∧ Q (.str (Str.ofString "None")) H
theorem call_reprF : CallR X (.builtin "repr") rReprF := by
  intro pins s σ H xs us Q I r h
  rcases h with ⟨y, rfl, hz, q⟩ | ⟨rfl, q⟩
  · obtain ⟨u, rfl, t, rfl⟩ := vals1 r
    exact PySem.P.repr_of_str ⟨.str _, H, I.tok _, ⟨_, rfl⟩, q⟩ hz
  · obtain ⟨u, rfl, ru⟩ := vals1 r
    cases (show u = Value.none from ru)
    exact PySem.P.repr_of_none ⟨.str _, H, I.tok _, ⟨_, rfl⟩, q⟩
end
end Qp
set_option Elab.async false
set_option linter.all false
set_option maxRecDepth 100000
set_option maxHeartbeats 4000000
/-! C() of a class without own __init__. -/
namespace Qp
open PySem PySem.Spec PyProof.Rows L2 TL Qh SlX PySem.W NwA
section
variable {X : Cx} {C : Addr} {x : Str} {p pos : Pos}
def tPlain (C : Addr) : TE := fun _ H Q => ∀ x dx, H x = Option.none → H dx = Option.none → dx ≠ x → Q (.ref x) (L2.upd (L2.upd H dx (.own x)) x (.ins C dx []))
theorem pe_plain (mk : PySem.W.makesIn X.K C = true) (hi : PySem.W.findIn X.K (.ref C) "__init__" = some (some (.builtin "object.__init__"))) (top : PySem.W.mroIn X.K C (.type "object") = some true) (kp : PySem.W.keepIn X.K (.ref C) = true)
    (hm : X.mg x = some (.ref C)) (hg : Gl X x := by rfl) (hdb : (x == ("__debug__" : Str)) = false := by decide) : PE X (.Call (.Name x p) [] [] pos) (tPlain C) := by
  constructor
  intro pins s σ H Q I h
  refine wpAny_Call_Name_kw (ld_glob I hg hm ?_ hdb)
  refine PySem.W.callWith_K0 I.kIn kp ?_
  have want := h (s.heap.objs.size + 1) s.heap.objs.size (I.hok.fresh (Nat.le_succ _)) (I.hok.fresh (Nat.le_refl _)) (Nat.ne_of_lt (Nat.lt_succ_self _))
  have J := Inv.made (C := C) I
  obtain ⟨mA, O, _⟩ := ins_get J.hok upd_same
  obtain ⟨od, O, _⟩ := O.look
  refine wpAny_call (make_map0 I.kIn mk hi (fun self => PySem.W.Looks.of_pure (oi_bind _)) ?_)
  refine codeAny_call_builtin oi_plain entry_oi (PySem.W.check_slot oi_kind oi_split (O.type.andThen (PySem.W.looks_mroIn J.kIn top)) (oi_args_any _ [] []) ?_)
  rw [oi_run]
  exact wpAny_pure ⟨rfl, V.ref (s.heap.objs.size + 1), _, J, rfl, want⟩
end
end Qp
set_option Elab.async false
set_option linter.all false
set_option maxRecDepth 100000
set_option maxHeartbeats 4000000
namespace K08
open PySem PySem.Spec PyProof.Rows L2 TL Qh Qm Qp
abbrev sQuoted : Stmt := top 9
abbrev sRuleLine : Stmt := top 18
abbrev sResult : Stmt := inClass (top 19) 2
abbrev sEqS : Stmt := inClass (top 19) 3
abbrev sStrS : Stmt := inClass (top 19) 4
abbrev sReprS : Stmt := inClass (top 19) 5
/-- an instance with these rules -/
def SameAt (C : Addr) (G : Hp) (a : Addr) (rs : List (List (List Str))) (b : Bool) : Prop := ∃ dx D vs, G a = some (.ins C dx [("rules", .ref D), ("keep", .bl b)]) ∧ G D = some (.tup vs) ∧ RVs G vs (rs.map some)
theorem SameAt.same {C : Addr} {G G' : Hp} {a : Addr} {rs : List (List (List Str))} {b : Bool} (h : SameAt C G a rs b) (s : Same G G') : SameAt C G' a rs b := by
  obtain ⟨dx, D, vs, h1, h2, h3⟩ := h
  exact ⟨dx, D, vs, s _ _ h1, s _ _ h2, h3.same s⟩
def okRules (rs : List (List (List Str))) : Prop := rs.length ≤ 8 ∧ ∀ r ∈ rs, rightR r
theorem RVs.at {G : Hp} : ∀ {vs : List V} {os : List (Option (List (List Str)))} {i : Nat} {v : V}, RVs G vs os → vs[i]? = some v → ∃ o, os[i]? = some o ∧ RV G v o
  | _, _, 0, v, .cons h t, e => by
    cases e
    exact ⟨_, rfl, h⟩
  | _, _, i + 1, v, .cons h t, e => by
    have q := RVs.at (i := i) t e
    exact q
theorem right_ok {r : List (List Str)} (h : rightR r) : ruleSize r ≤ 300 ∧ (ruleText r).length ≤ 300 := by
  have h1 := rule_small0 (r := r) fun ts ht => by
    have hs := List.all_eq_true.mp h.1 ts ht
    refine ⟨?_, fun y hy => ?_⟩
    · unfold sideS at hs
      have := of_decide_eq_true (Bool.and_eq_true_iff.mp (Bool.and_eq_true_iff.mp hs).1).2
      omega
    · have hw := sideS_word hs y hy
      unfold wordS lettersS at hw
      have := of_decide_eq_true (Bool.and_eq_true_iff.mp (Bool.and_eq_true_iff.mp hw).1).2
      omega
  have h2 := text_len r
  have h4 := h.2.2
  omega
/-- what == and isinstance ask of a class -/
structure InsT (K : PySem.W.Frag) (C : Addr) : Prop where
  cl : Cls K C
  ha : PySem.W.findIn K (.ref C) "__class__" = some (some (.builtin "object.__class__"))
  hn : PySem.W.specialIn K (.builtin "object.__class__") "__get__" = some (some (.builtin "getset_descriptor.__get__"))
  htk : PySem.W.takesIn K (.builtin "object.__class__") = some true
  hm : PySem.W.mroIn K C (.type "object") = some true
theorem InsT.ty {K : PySem.W.Frag} {C a dx : Addr} {G : Hp} {fs : List (Str × V)} (T : InsT K C) (h : G a = some (.ins C dx fs)) : TyX K G (.ref a) (.ref C) := .base (.ins h T.cl T.ha T.hn T.htk T.hm)
def spResult : Sp := fun vs G Q _ => ∃ (a : Addr) (v : V), vs = [.ref a, v] ∧ Q v G
def spEqS (K : PySem.W.Frag) (C : Addr) : Sp := fun vs G Q _ => ∃ (a : Addr) (rs : List (List (List Str))) (b : Bool) (y : V), vs = [.ref a, y] ∧ SameAt C G a rs b ∧ okRules rs ∧
  ((∃ t, TyX K G y t ∧ PySem.W.kitOne K t (.ref C) = some false ∧ Q (.bl false) G) ∨ ∃ (a' : Addr) (rs' : List (List (List Str))) (b' : Bool), y = .ref a' ∧ SameAt C G a' rs' b' ∧ okRules rs' ∧ Q (.bl (decide (rs = rs') && decide (b = b'))) G)
def headS (b : Bool) : Str := if b then Str.ofString "same " else Str.ofString "first "
def lineS (b : Bool) (r : List (List Str)) : Str := headS b ++ ruleText r
def spRuleLine : Sp := fun vs G Q _ => ∃ (a : Addr) (r : List (List Str)) (b : Bool), vs = [.ref a, .bl b] ∧ RuleAt G a r ∧ rightR r ∧ ∀ G', Same G G' → Q (.str (lineS b r)) G'
def nl : Str := Str.ofString "\n"
def comma : Str := Str.ofString ", "
def strS (rs : List (List (List Str))) (b : Bool) : Str := Txt.join nl (rs.map (lineS b))
def reprS (rs : List (List (List Str))) : Str := Str.ofString "Same(" ++ Txt.join comma (rs.map fun r => reprText (ruleText r)) ++ Str.ofString ")"
def spStrS (C : Addr) : Sp := fun vs G Q _ => ∃ (a : Addr) (rs : List (List (List Str))) (b : Bool), vs = [.ref a] ∧ SameAt C G a rs b ∧ okRules rs ∧ ∀ G', Same G G' → Q (.str (strS rs b)) G'
def spReprS (C : Addr) : Sp := fun vs G Q _ => ∃ (a : Addr) (rs : List (List (List Str))) (b : Bool), vs = [.ref a] ∧ SameAt C G a rs b ∧ okRules rs ∧ ∀ G', Same G G' → Q (.str (reprS rs)) G'
def spQuoted (K : PySem.W.Frag) : Sp := fun vs G Q _ => ∃ (a : Addr) (ts : List Str), vs = [.ref a] ∧ SqL K G a (ts.map V.str) ∧ ts.length ≤ 100 ∧ (∀ y ∈ ts, (reprText y).length ≤ 5000) ∧ ∀ G', Same G G' → Q (.str (Txt.join comma (ts.map reprText))) G'
theorem empty_add (x : Str) : Str.empty ++ x = x := by
  apply ext_tl
  rw [tl_append]
  rfl
theorem add_len (x y : Str) : (x ++ y).length = x.length + y.length := by rw [len_tl, tl_append, List.length_append, ← len_tl, ← len_tl]
theorem line_len {b : Bool} {r : List (List Str)} (h : rightR r) : (lineS b r).length ≤ 306 := by
  unfold lineS
  rw [add_len]
  have h1 := (right_ok h).2
  have h2 : (headS b).length ≤ 6 := by
    cases b <;> decide +kernel
  omega
section
variable {P : Program} {w : World} {K : PySem.W.Frag} {mg : Str → Option Value} {base : Heap}
theorem scResult : FnScope ["self", "value"] ["self", "value"] (defScope sResult) := ⟨rfl, rfl, rfl, by decide +kernel, rfl, by decide +kernel, by decide +kernel⟩
theorem ok_result {f : Addr} {fd : FuncData} (F : Fun K "result" "Same.result" sResult f fd) : FnOk P w K mg base (L2.CX P w) 1 f fd ["self", "value"] spResult := by
  refine F.okX scResult (fun vs G Q E h => ?_) (fun cdv A out t G vs Q E hr h => ?_)
  · obtain ⟨a, v, rfl, _⟩ := h
    rfl
  · obtain ⟨a, v, rfl, k⟩ := h
    exact ⟨_, pss_one (ps_ret (pv 1)), _, rfl, k⟩
theorem scEqS : FnScope ["self", "other"] ["self", "other"] (defScope sEqS) := ⟨rfl, rfl, rfl, by decide +kernel, rfl, by decide +kernel, by decide +kernel⟩
theorem rules_dp {K : PySem.W.Frag} {G : Hp} {vs : List V} {rs : List (List (List Str))} (h : RVs G vs (rs.map some)) : DpAll K G vs (rs.map ruleD) := by
  have e : (rs.map some).map ruleData = rs.map ruleD := by
    rw [List.map_map]
    rfl
  rw [← e]
  exact rvs_dp h
theorem rules_shaped {rs : List (List (List Str))} (h : okRules rs) : SeqAt.shaped (.tuple (rs.map ruleD)) = true := by
  have e : (rs.map some).map ruleData = rs.map ruleD := by
    rw [List.map_map]
    rfl
  rw [← e]
  exact shaped_rules (os := rs.map some) fun o ho r er => by
    obtain ⟨z, hz, rfl⟩ := List.mem_map.mp ho
    cases er
    exact (h.2 r hz).1
theorem ok_eqS {C f : Addr} {fd : FuncData} (F : Fun K "__eq__" "Same.__eq__" sEqS f fd) (B : Blt mg) (T : SameC K mg C) (I : InsT K C) (ki : PySem.W.kitOne K (.ref C) (.ref C) = some true) : FnOk P w K mg base (L2.CX P w) 1 f fd ["self", "other"] (spEqS K C) := by
  refine F.okX scEqS (fun vs G Q E h => ?_) (fun cdv A out t G vs Q E hr h => ?_)
  · obtain ⟨a, rs, b, y, rfl, _⟩ := h
    rfl
  · obtain ⟨a, rs, b, y, rfl, ⟨dx, D, vs, h1, h2, h3⟩, ok, k⟩ := h
    have hu64 := hr.units
    refine ⟨_, pss_one (ps_ret (pe_and (pe_callB call_isi (by rfl) B.n_isinstance bt_isinstance (pa_cons (pv 1) (pa_cons (pe_glob (v := .ref C) rfl T.g rfl) pa_nil))) (pe_and (pe_cmpR (op_eqD hu64) (pe_fld (pv 0) rfl) (pe_fld (pv 1) rfl) (nomark _)) (pe_one (pe_cmpR op_eq (pe_fld (pv 0) rfl) (pe_fld (pv 1) rfl) (nomark _)))))), ?_⟩
    rcases k with ⟨ty, hty, hk, q⟩ | ⟨a', rs', b', rfl, ⟨dx', D', vs', i1, i2, i3⟩, ok', q⟩
    · refine ⟨_, rfl, _, _, _, _, _, rfl, .own C, hty, hk, _, rfl, ?_⟩
      exact q
    · refine ⟨_, rfl, _, _, _, _, _, rfl, .own C, I.ty i1, ki, _, rfl, ?_⟩
      refine ⟨_, rfl, a, C, dx, _, _, rfl, h1, T.cl, T.n1, rfl, ?_⟩
      refine ⟨_, rfl, a', C, dx', _, _, rfl, i1, T.cl, T.n1, rfl, ?_⟩
      refine ⟨_, _, .tup (SqT.of h2) (rules_dp h3), .tup (SqT.of i2) (rules_dp i3), rules_shaped ok, rules_shaped ok', _, rfl, ?_⟩
      rw [eqv_rules]
      by_cases e : rs = rs'
      · rw [decide_eq_true e] at q ⊢
        refine ⟨_, rfl, a, C, dx, _, _, rfl, h1, T.cl, T.n2, rfl, ?_⟩
        refine ⟨_, rfl, a', C, dx', _, _, rfl, i1, T.cl, T.n2, rfl, rfl, ?_⟩
        have eb : decide (V.bl b = V.bl b') = decide (b = b') := by
          cases b <;> cases b' <;> decide
        rw [eb]
        exact q
      · rw [decide_eq_false e] at q ⊢
        exact q
theorem scRuleLine : FnScope ["rule", "keep"] ["rule", "keep"] (defScope sRuleLine) := ⟨rfl, rfl, rfl, by decide +kernel, rfl, by decide +kernel, by decide +kernel⟩
theorem ok_ruleLine (D : DefIn K mg "rule_line" sRuleLine) (F_rule_text : Ok P w K mg base "rule_text" (defArgs sRuleText) ["rule"] 2 spRuleText) : Ok P w K mg base "rule_line" (defArgs sRuleLine) ["rule", "keep"] 3 spRuleLine := by
  refine D.ok scRuleLine (fun vs G Q E h => ?_) (fun _ _ _ _ _ _ us hl => match us, hl with | [_, _], _ => rfl) (fun f cdv A out t G vs Q E hr h => ?_)
  · obtain ⟨a, r, b, rfl, _⟩ := h
    rfl
  · obtain ⟨a, r, b, rfl, ra, rr, k⟩ := h
    refine ⟨_, pss_one (ps_ret (pe_ifExp (pt_val (pv 1)) (pe_joined (PJ.cons pe_str (PJ.cons (pe_fmt (pe_own F_rule_text hr takes0 (pa_cons (pv 0) pa_nil))) PJ.nil))) (pe_joined (PJ.cons pe_str (PJ.cons (pe_fmt (pe_own F_rule_text hr takes0 (pa_cons (pv 0) pa_nil))) PJ.nil))))), ?_⟩
    have ro := right_ok rr
    have hz := big_line (n := (ruleText r).length) (by omega)
    have hl := line_len (b := b) rr
    refine ⟨_, rfl, _, rfl, ?_⟩
    cases b with
    | true =>
      refine iteT ⟨_, rfl, by decide +kernel, _, rfl, a, r, rfl, ra, by omega, fun G1 s1 => .inl ⟨_, rfl, hz, _, rfl, ?_, ?_⟩⟩
      · rw [empty_add]
        exact big_line (by have : (lineS true r).length ≤ 306 := hl; show (lineS true r).length ≤ 1000000; omega)
      · rw [empty_add]
        exact k G1 s1
    | false =>
      refine iteF ⟨_, rfl, by decide +kernel, _, rfl, a, r, rfl, ra, by omega, fun G1 s1 => .inl ⟨_, rfl, hz, _, rfl, ?_, ?_⟩⟩
      · rw [empty_add]
        exact big_line (by have : (lineS false r).length ≤ 306 := hl; show (lineS false r).length ≤ 1000000; omega)
      · rw [empty_add]
        exact k G1 s1
theorem scQuoted : FnScope ["values", "value"] ["values"] (defScope sQuoted) := ⟨rfl, rfl, rfl, by decide +kernel, rfl, by decide +kernel, by decide +kernel⟩
theorem ok_quoted (D : DefIn K mg "quoted" sQuoted) (B : Blt mg) : Ok P w K mg base "quoted" (defArgs sQuoted) ["values"] 1 (spQuoted K) := by
  refine D.ok scQuoted (fun vs G Q E h => ?_) (fun _ _ _ _ _ _ us hl => match us, hl with | [_], _ => rfl) (fun f cdv A out t G vs Q E hr h => ?_)
  · obtain ⟨a, ts, rfl, _⟩ := h
    rfl
  · obtain ⟨a, ts, rfl, hS, hn, hy, k⟩ := h
    refine ⟨_, pss_one (ps_ret (pe_bm PySem.F.plainAttrs_str PySem.F.slot_str_join PySem.F.type_str_join mt_join pe_str (pa_cons (pe_lc (own := [("value", 1)]) (tt := tYes) rfl scQuoted.nd (pi_list (pv 0)) (blkOk_by (N := ["values", "value"]) (sc := defScope sQuoted) (by decide +kernel)) (fun _ _ _ _ _ => pg_name (i := 1) scQuoted.nd rfl (by first | exact Or.inl rfl | exact Or.inr rfl)) (fun _ _ _ _ _ => pts_nil) (fun _ _ _ _ _ => (pe_callB call_reprF (by rfl) B.n_repr bt_repr (pa_cons (pv 1) pa_nil)))) pa_nil))), ?_⟩
    refine ⟨rfl, _, rfl, a, rfl, ⟨_, hS⟩, fun D hD => ?_⟩
    refine lc_list (xs := ts.map V.str) (fun i G' => Same G G' ∧ G' D = some (.lst (((ts.map reprText).take i).map V.str))) ⟨Same.new hD, upd_same⟩ (fun i G' _ ⟨sm, _⟩ => sm.seq hS) ?_ ?_
    · rintro i v G1 hi ⟨sm, hl⟩
      obtain ⟨y, hyi, rfl⟩ := map_at hi
      have hil := (List.getElem?_eq_some_iff.mp hyi).1
      have hym := List.mem_of_getElem? hyi
      refine ⟨rfl, ?_⟩
      refine ⟨_, rfl, .inl ⟨y, rfl, big_line (by have := hy y hym; omega), ?_⟩⟩
      refine ⟨_, hl, by rw [List.length_map, List.length_take]; exact big_line' (by omega), Qh.Same.fresh sm hD, ?_⟩
      rw [upd_same, take_get (by rw [List.getElem?_map, hyi]; rfl), List.map_append]
      rfl
    · rintro G1 ⟨sm, hl⟩
      rw [List.length_map, List.take_of_length_le (by rw [List.length_map]; exact Nat.le_refl _)] at hl
      refine ⟨comma, D, ts.map reprText, rfl, rfl, .inl (SqL.of hl), ?_, k G1 sm⟩
      have h1 := sum_le (l := (ts.map reprText).map (·.length)) (m := 5000) fun z hz => by
        obtain ⟨y, hy', rfl⟩ := List.mem_map.mp hz
        obtain ⟨x, hx, rfl⟩ := List.mem_map.mp hy'
        exact hy x hx
      have e2 : comma.length = 2 := by decide +kernel
      rw [List.length_map, List.length_map] at h1
      rw [e2, List.length_map]
      have : ts.length * 5000 ≤ 100 * 5000 := Nat.mul_le_mul hn (Nat.le_refl _)
      omega
theorem scStrS : FnScope ["self", "rule"] ["self"] (defScope sStrS) := ⟨rfl, rfl, rfl, by decide +kernel, rfl, by decide +kernel, by decide +kernel⟩
theorem ok_strS {C f : Addr} {fd : FuncData} (F : Fun K "__str__" "Same.__str__" sStrS f fd) (T : SameC K mg C) (F_rule_line : Ok P w K mg base "rule_line" (defArgs sRuleLine) ["rule", "keep"] 3 spRuleLine) : FnOk P w K mg base (L2.CX P w) 4 f fd ["self"] (spStrS C) := by
  refine F.okX scStrS (fun vs G Q E h => ?_) (fun cdv A out t G vs Q E hr h => ?_)
  · obtain ⟨a, rs, b, rfl, _⟩ := h
    rfl
  · obtain ⟨a, rs, b, rfl, sa, ok, k⟩ := h
    refine ⟨_, pss_one (ps_ret (pe_bm PySem.F.plainAttrs_str PySem.F.slot_str_join PySem.F.type_str_join mt_join pe_str (pa_cons (pe_lc (own := [("rule", 1)]) (tt := tYes) (te := tCallS spRuleLine (WE fun _ _ _ _ => False) (tCons (tVar 1) (tCons (tFld K (tVar 0) "keep") tNil))) rfl scStrS.nd (pi_tup (pe_fld (pv 0) rfl)) (blkOk_by (N := ["self", "rule"]) (sc := defScope sStrS) (by decide +kernel)) (fun _ _ _ _ _ => pg_name (i := 1) scStrS.nd rfl (by first | exact Or.inl rfl | exact Or.inr rfl)) (fun _ _ _ _ _ => pts_nil) (fun _ _ _ _ _ => (pe_own F_rule_line (hr.mono (by decide)) takes0 (pa_cons (pv 1) (pa_cons (pe_fld (pv 0) rfl) pa_nil))))) pa_nil))), ?_⟩
    obtain ⟨dx, D, vs, h1, h2, h3⟩ := id sa
    have hlen := h3.len
    rw [List.length_map] at hlen
    have hok := ok.1
    refine ⟨rfl, _, rfl, a, C, dx, _, _, rfl, h1, T.cl, T.n1, rfl, D, rfl, ⟨_, SqT.of h2⟩, fun E1 hE1 => ?_⟩
    refine lc_tup (xs := vs) (fun i G' => Same G G' ∧ G' E1 = some (.lst (((rs.map (lineS b)).take i).map V.str))) ⟨Same.new hE1, upd_same⟩ (fun i G' _ ⟨sm, _⟩ => SqT.of (sm _ _ h2)) ?_ ?_
    · rintro i v G1 hi ⟨sm, hl⟩
      obtain ⟨o, ho, rv⟩ := h3.at hi
      obtain ⟨r, hri, rfl⟩ := map_at ho
      obtain ⟨q, rfl, ra⟩ := rv
      have hil := (List.getElem?_eq_some_iff.mp hri).1
      refine ⟨rfl, ?_⟩
      refine ⟨_, rfl, _, rfl, a, C, dx, _, _, rfl, sm _ _ h1, T.cl, T.n2, rfl, q, r, b, rfl, ra.same sm, ok.2 r (List.mem_of_getElem? hri), fun G2 s2 => ?_⟩
      refine ⟨_, s2 _ _ hl, by rw [List.length_map, List.length_take]; exact big_line' (by omega), Qh.Same.fresh (sm.trans s2) hE1, ?_⟩
      rw [upd_same, take_get (by rw [List.getElem?_map, hri]; rfl), List.map_append]
      rfl
    · rintro G1 ⟨sm, hl⟩
      rw [hlen, List.take_of_length_le (by rw [List.length_map]; exact Nat.le_refl _)] at hl
      refine ⟨nl, E1, rs.map (lineS b), rfl, rfl, .inl (SqL.of hl), ?_, k G1 sm⟩
      have h1 := sum_le (l := (rs.map (lineS b)).map (·.length)) (m := 306) fun z hz => by
        obtain ⟨y, hy', rfl⟩ := List.mem_map.mp hz
        obtain ⟨x, hx, rfl⟩ := List.mem_map.mp hy'
        exact line_len (ok.2 x hx)
      have e2 : nl.length = 1 := by decide +kernel
      rw [List.length_map, List.length_map] at h1
      rw [e2, List.length_map]
      omega
theorem scReprS : FnScope ["self", "rule"] ["self"] (defScope sReprS) := ⟨rfl, rfl, rfl, by decide +kernel, rfl, by decide +kernel, by decide +kernel⟩
theorem repr_len {r : List (List Str)} (h : rightR r) : (reprText (ruleText r)).length ≤ 400 := by
  rw [repr_rule h.1, add_len, add_len]
  have h1 := (right_ok h).2
  have e : (Str.ofString "'").length = 1 := by decide +kernel
  omega
theorem joined_len {sep : Str} {ps : List Str} {m : Nat} (h : ∀ p ∈ ps, p.length ≤ m) : (Txt.join sep ps).length ≤ ps.length * m + ps.length * sep.length := by
  rw [len_tl, join_eq, tl_join]
  have h1 := joinL_size (tl sep) (ps.map tl)
  have h2 := sum_le (l := (ps.map tl).map (·.length)) (m := m) fun z hz => by
    obtain ⟨y, hy, rfl⟩ := List.mem_map.mp hz
    obtain ⟨x, hx, rfl⟩ := List.mem_map.mp hy
    rw [← len_tl]
    exact h x hx
  rw [List.length_map, List.length_map] at h2
  rw [List.length_map, ← len_tl] at h1
  omega
theorem ok_reprS {C f : Addr} {fd : FuncData} (F : Fun K "__repr__" "Same.__repr__" sReprS f fd) (T : SameC K mg C) (F_rule_text : Ok P w K mg base "rule_text" (defArgs sRuleText) ["rule"] 2 spRuleText) (F_quoted : Ok P w K mg base "quoted" (defArgs sQuoted) ["values"] 1 (spQuoted K)) : FnOk P w K mg base (L2.CX P w) 3 f fd ["self"] (spReprS C) := by
  refine F.okX scReprS (fun vs G Q E h => ?_) (fun cdv A out t G vs Q E hr h => ?_)
  · obtain ⟨a, rs, b, rfl, _⟩ := h
    rfl
  · obtain ⟨a, rs, b, rfl, sa, ok, k⟩ := h
    refine ⟨_, pss_one (ps_ret (pe_joined (PJ.cons pe_str (PJ.cons (pe_fmt (pe_own F_quoted (hr.mono (by decide)) takes0 (pa_cons (pe_lc (own := [("rule", 1)]) (tt := tYes) rfl scReprS.nd (pi_tup (pe_fld (pv 0) rfl)) (blkOk_by (N := ["self", "rule"]) (sc := defScope sReprS) (by decide +kernel)) (fun _ _ _ _ _ => pg_name (i := 1) scReprS.nd rfl (by first | exact Or.inl rfl | exact Or.inr rfl)) (fun _ _ _ _ _ => pts_nil) (fun _ _ _ _ _ => (pe_own F_rule_text (hr.mono (by decide)) takes0 (pa_cons (pv 1) pa_nil)))) pa_nil))) (PJ.cons pe_str PJ.nil))))), ?_⟩
    obtain ⟨dx, D, vs, h1, h2, h3⟩ := id sa
    have hlen := h3.len
    rw [List.length_map] at hlen
    have hok := ok.1
    refine ⟨_, rfl, by decide +kernel, ?_⟩
    refine ⟨_, rfl, a, C, dx, _, _, rfl, h1, T.cl, T.n1, rfl, D, rfl, ⟨_, SqT.of h2⟩, fun E1 hE1 => ?_⟩
    refine lc_tup (xs := vs) (fun i G' => Same G G' ∧ G' E1 = some (.lst (((rs.map ruleText).take i).map V.str))) ⟨Same.new hE1, upd_same⟩ (fun i G' _ ⟨sm, _⟩ => SqT.of (sm _ _ h2)) ?_ ?_
    · rintro i v G1 hi ⟨sm, hl⟩
      obtain ⟨o, ho, rv⟩ := h3.at hi
      obtain ⟨r, hri, rfl⟩ := map_at ho
      obtain ⟨q, rfl, ra⟩ := rv
      have hil := (List.getElem?_eq_some_iff.mp hri).1
      have ro := right_ok (ok.2 r (List.mem_of_getElem? hri))
      refine ⟨rfl, ?_⟩
      refine ⟨_, rfl, q, r, rfl, ra.same sm, by omega, fun G2 s2 => ?_⟩
      refine ⟨_, s2 _ _ hl, by rw [List.length_map, List.length_take]; exact big_line' (by omega), Qh.Same.fresh (sm.trans s2) hE1, ?_⟩
      rw [upd_same, take_get (by rw [List.getElem?_map, hri]; rfl), List.map_append]
      rfl
    · rintro G1 ⟨sm, hl⟩
      rw [hlen, List.take_of_length_le (by rw [List.length_map]; exact Nat.le_refl _)] at hl
      have hrl : ∀ p ∈ rs.map (fun r => reprText (ruleText r)), p.length ≤ 400 := fun p hp => by
        obtain ⟨r, hr', rfl⟩ := List.mem_map.mp hp
        exact repr_len (ok.2 r hr')
      have hj := joined_len (sep := comma) hrl
      have e2 : comma.length = 2 := by decide +kernel
      rw [List.length_map, e2] at hj
      have em : (rs.map ruleText).map reprText = rs.map fun r => reprText (ruleText r) := by
        rw [List.map_map]
        rfl
      refine ⟨E1, rs.map ruleText, rfl, SqL.of hl, by rw [List.length_map]; omega, fun y hy => ?_, fun G2 s2 => .inl ⟨_, rfl, ?_, _, rfl, ?_, _, rfl, ?_, ?_⟩⟩
      · obtain ⟨r, hr', rfl⟩ := List.mem_map.mp hy
        have := repr_len (ok.2 r hr')
        omega
      · rw [em]
        exact big_line (by omega)
      · rw [em, empty_add, add_len]
        have e5 : (Str.ofString "Same(").length = 5 := by decide +kernel
        exact big_line (by omega)
      · rw [em, empty_add, add_len, add_len]
        have e5 : (Str.ofString "Same(").length = 5 := by decide +kernel
        have e1 : (Str.ofString ")").length = 1 := by decide +kernel
        exact big_line (by omega)
      · rw [em, empty_add]
        exact k G2 (sm.trans s2)
end
end K08
set_option Elab.async false
set_option linter.all false
set_option maxRecDepth 100000
set_option maxHeartbeats 4000000
namespace K08
open PySem PySem.Spec PyProof.Rows L2 TL Qh Qm Qp
abbrev sTells : Stmt := top 33
/-! ### how long a repr of rules is -/
theorem weight_map {α : Type} {f : α → PyData} {m : Nat} : ∀ xs : List α, (∀ x ∈ xs, (f x).weight ≤ m) → PyData.weightAll (xs.map f) ≤ xs.length * (m + 1)
  | [], _ => by
    show PyData.weightAll [] ≤ _
    rw [PyData.weightAll]
    exact Nat.zero_le _
  | x :: xs, h => by
    have ih := weight_map xs fun y hy => h y (List.mem_cons_of_mem _ hy)
    have h1 := h x List.mem_cons_self
    show PyData.weightAll (f x :: xs.map f) ≤ _
    rw [PyData.weightAll, List.length_cons, Nat.add_mul, Nat.one_mul]
    omega
theorem leaves_map {α : Type} {f : α → PyData} {n : Nat} : ∀ xs : List α, (∀ x ∈ xs, (f x).leavesShort n = true) → PyData.leavesShortAll n (xs.map f) = true
  | [], _ => rfl
  | x :: xs, h => by
    show PyData.leavesShortAll n (f x :: xs.map f) = true
    rw [PyData.leavesShortAll, h x List.mem_cons_self, leaves_map xs fun y hy => h y (List.mem_cons_of_mem _ hy)]
    rfl
theorem show_map {α : Type} {f : α → PyData} : ∀ xs : List α, (∀ x ∈ xs, (f x).showable = true) → PyData.showableAll (xs.map f) = true
  | [], _ => rfl
  | x :: xs, h => by
    show PyData.showableAll (f x :: xs.map f) = true
    rw [PyData.showableAll, h x List.mem_cons_self, show_map xs fun y hy => h y (List.mem_cons_of_mem _ hy)]
    rfl
theorem nodict_map {α : Type} {f : α → PyData} : ∀ xs : List α, (∀ x ∈ xs, (f x).hasDict = false) → PyData.hasDictAll (xs.map f) = false
  | [], _ => rfl
  | x :: xs, h => by
    show PyData.hasDictAll (f x :: xs.map f) = false
    rw [PyData.hasDictAll, h x List.mem_cons_self, nodict_map xs fun y hy => h y (List.mem_cons_of_mem _ hy)]
    rfl
theorem depth_map {α : Type} {f : α → PyData} {m : Nat} : ∀ xs : List α, (∀ x ∈ xs, (f x).depth ≤ m) → PyData.depthAll (xs.map f) ≤ m
  | [], _ => Nat.zero_le _
  | x :: xs, h => by
    have ih := depth_map xs fun y hy => h y (List.mem_cons_of_mem _ hy)
    have h1 := h x List.mem_cons_self
    show max (f x).depth (PyData.depthAll (xs.map f)) ≤ m
    omega
theorem side_data {ts : List Str} (h : sideS ts = true) : (PyData.tuple (ts.map PyData.str)).weight ≤ 44 ∧ (PyData.tuple (ts.map PyData.str)).leavesShort 8 = true ∧ (PyData.tuple (ts.map PyData.str)).showable = true ∧ (PyData.tuple (ts.map PyData.str)).hasDict = false ∧ (PyData.tuple (ts.map PyData.str)).depth ≤ 1 := by
  have hw := sideS_word h
  have hn : ts.length ≤ 4 := by
    unfold sideS at h
    have := of_decide_eq_true (Bool.and_eq_true_iff.mp (Bool.and_eq_true_iff.mp h).1).2
    omega
  have hl : ∀ y ∈ ts, y.length ≤ 10 := fun y hy => by
    have := hw y hy
    unfold wordS lettersS at this
    have := of_decide_eq_true (Bool.and_eq_true_iff.mp (Bool.and_eq_true_iff.mp this).1).2
    omega
  refine ⟨?_, ?_, ?_, ?_, ?_⟩
  · have h1 := weight_map (f := PyData.str) (m := 10) ts fun y hy => by
      have := hl y hy
      rw [PyData.weight]
      exact this
    rw [PyData.weight]
    omega
  · rw [PyData.leavesShort]
    exact leaves_map ts fun y hy => by
      rw [PyData.leavesShort, List.all_eq_true]
      intro c hc
      have ht := txt_iff y |>.mp (clean_txt (word_clean (hw y hy))) c hc
      exact decide_eq_true (Nat.lt_of_lt_of_le ht (by decide))
  · exact show_map ts fun y hy => rfl
  · exact nodict_map ts fun y hy => rfl
  · show PyData.depthAll (ts.map PyData.str) + 1 ≤ 1
    have := depth_map (f := PyData.str) (m := 0) ts fun y hy => Nat.le_refl 0
    omega
theorem rule_data {r : List (List Str)} (h : rightR r) : (ruleD r).weight ≤ 180 ∧ (ruleD r).leavesShort 8 = true ∧ (ruleD r).showable = true ∧ (ruleD r).hasDict = false ∧ (ruleD r).depth ≤ 2 := by
  have hs := fun ts (ht : ts ∈ r) => side_data (List.all_eq_true.mp h.1 ts ht)
  have hn := h.2.2
  unfold ruleD
  refine ⟨?_, ?_, ?_, ?_, ?_⟩
  · have h1 := weight_map (f := fun ts : List Str => PyData.tuple (ts.map PyData.str)) (m := 44) r fun ts ht => (hs ts ht).1
    rw [PyData.weight]
    omega
  · rw [PyData.leavesShort]
    exact leaves_map r fun ts ht => (hs ts ht).2.1
  · exact show_map r fun ts ht => (hs ts ht).2.2.1
  · exact nodict_map r fun ts ht => (hs ts ht).2.2.2.1
  · show PyData.depthAll _ + 1 ≤ 2
    have := depth_map (f := fun ts : List Str => PyData.tuple (ts.map PyData.str)) (m := 1) r fun ts ht => (hs ts ht).2.2.2.2
    omega
def pairD (rs : List (List (List Str))) (b : Bool) : PyData := .list [.tuple (rs.map ruleD), .bool b]
theorem pair_data {rs : List (List (List Str))} {b : Bool} (h : okRules rs) : (pairD rs b).showable = true ∧ (pairD rs b).hasDict = false ∧ (pairD rs b).depth ≤ 40 ∧ (pairD rs b).shown.length ≤ sizeLine := by
  have hr := fun r (hr : r ∈ rs) => rule_data (h.2 r hr)
  have hn := h.1
  unfold pairD
  refine ⟨?_, ?_, ?_, ?_⟩
  · show (PyData.showableAll (rs.map ruleD) && (true && true)) = true
    rw [show_map rs fun r hh => (hr r hh).2.2.1]
    rfl
  · show (PyData.hasDictAll (rs.map ruleD) || (false || false)) = false
    rw [nodict_map rs fun r hh => (hr r hh).2.2.2.1]
    rfl
  · show max (PyData.depthAll (rs.map ruleD) + 1) (max 0 0) + 1 ≤ 40
    have := depth_map (f := ruleD) (m := 2) rs fun r hh => (hr r hh).2.2.2.2
    omega
  · have hl : (PyData.list [.tuple (rs.map ruleD), .bool b]).leavesShort 8 = true := by
      rw [PyData.leavesShort, PyData.leavesShortAll, PyData.leavesShort, leaves_map rs fun r hh => (hr r hh).2.1]
      rfl
    have h1 := PyData.shown_le 8 (by decide) _ hl
    have h2 := weight_map (f := ruleD) (m := 180) rs fun r hh => (hr r hh).1
    have h3 : (PyData.list [.tuple (rs.map ruleD), .bool b]).weight ≤ 2000 := by
      rw [PyData.weight, PyData.weightAll, PyData.weight, PyData.weightAll, PyData.weightAll]
      have : (PyData.bool b).weight ≤ 1 := by
        cases b <;> decide
      omega
    exact big_line (by omega)
/-! ### what tells asks -/
def textsV (rs : List (List (List Str))) : List V := (rs.map ruleText).map V.str
structure SameM (P : Program) (w : World) (K : PySem.W.Frag) (mg : Str → Option Value) (base : Heap) (C CS : Addr) : Prop where
  T : SameC K mg C
  I : InsT K C
  IS : InsT K CS
  eqf : ∃ g, PySem.W.findIn K (.ref C) "__eq__" = some (some (.ref g)) ∧ PySem.W.isFn K (.ref g) = true ∧ FnR P w K mg base (L2.CX P w) 1 g (spEqS K C)
  ne : PySem.W.findIn K (.ref C) "__ne__" = some (some (.builtin "object.__ne__"))
  rp : ∃ g, PySem.W.findIn K (.ref C) "__repr__" = some (some (.ref g)) ∧ PySem.W.isFn K (.ref g) = true ∧ FnR P w K mg base (L2.CX P w) 3 g (spReprS C)
  st : ∃ g, PySem.W.findIn K (.ref C) "__str__" = some (some (.ref g)) ∧ PySem.W.isFn K (.ref g) = true ∧ FnR P w K mg base (L2.CX P w) 4 g (spStrS C)
  rs : ∃ f fd, Meth K C "result" f ∧ Binds K fd ["self", "value"] [] ∧ FnOk P w K mg base (L2.CX P w) 1 f fd ["self", "value"] spResult
  kSS : PySem.W.kitOne K (.ref C) (.ref CS) = some true
  ki : PySem.W.kitOne K (.ref C) (.ref C) = some true
  no : ∀ t ∈ ([.type "NoneType", .type "str", .type "tuple", .type "list", .ref CS] : List Value), PySem.W.kitOne K t (.ref C) = some false ∧ PySem.W.notFirst K C t = true
  gS : mg "Step" = some (.ref CS)
  mkS : PySem.W.makesIn K CS = true
  hiS : PySem.W.findIn K (.ref CS) "__init__" = some (some (.builtin "object.__init__"))
  kpS : PySem.W.keepIn K (.ref CS) = true
/-- a value that the instance is not equal to -/
def OthV (C CS : Addr) (rs : List (List (List Str))) (b : Bool) (G : Hp) (v : V) : Prop := v = .non ∨ (∃ x, v = .str x) ∨ (∃ a xs, v = .ref a ∧ G a = some (.tup xs)) ∨ (∃ a xs, v = .ref a ∧ G a = some (.lst xs)) ∨ (∃ a dx fs, v = .ref a ∧ G a = some (.ins CS dx fs)) ∨
  ∃ a' rs' b', v = .ref a' ∧ SameAt C G a' rs' b' ∧ okRules rs' ∧ (rs ≠ rs' ∨ b ≠ b')
theorem OthV.same {C CS : Addr} {rs : List (List (List Str))} {b : Bool} {G G' : Hp} {v : V} (h : OthV C CS rs b G v) (s : Same G G') : OthV C CS rs b G' v := by
  rcases h with h | h | ⟨a, xs, e, h⟩ | ⟨a, xs, e, h⟩ | ⟨a, dx, fs, e, h⟩ | ⟨a', rs', b', e, h, k⟩
  · exact .inl h
  · exact .inr (.inl h)
  · exact .inr (.inr (.inl ⟨a, xs, e, s _ _ h⟩))
  · exact .inr (.inr (.inr (.inl ⟨a, xs, e, s _ _ h⟩)))
  · exact .inr (.inr (.inr (.inr (.inl ⟨a, dx, fs, e, s _ _ h⟩))))
  · exact .inr (.inr (.inr (.inr (.inr ⟨a', rs', b', e, h.same s, k⟩))))
section
variable {P : Program} {w : World} {K : PySem.W.Frag} {mg : Str → Option Value} {base : Heap}
/-- such a value handed to the own == -/
theorem OthV.ask {C CS m : Addr} {rs : List (List (List Str))} {b : Bool} {G : Hp} {v : V} (M : SameM P w K mg base C CS) (h : OthV C CS rs b G v) (sm : SameAt C G m rs b) (ok : okRules rs) {Q : VK} {E : XK} (q : Q (.bl false) G) :
    ∃ t, TyX K G v t ∧ PySem.W.notFirst K C t = true ∧ spEqS K C [.ref m, v] G Q E := by
  have far : ∀ t, t ∈ ([.type "NoneType", .type "str", .type "tuple", .type "list", .ref CS] : List Value) → TyX K G v t → ∃ t, TyX K G v t ∧ PySem.W.notFirst K C t = true ∧ spEqS K C [.ref m, v] G Q E := fun t ht ty =>
    ⟨t, ty, (M.no t ht).2, m, rs, b, v, rfl, sm, ok, .inl ⟨t, ty, (M.no t ht).1, q⟩⟩
  rcases h with rfl | ⟨x, rfl⟩ | ⟨a, xs, rfl, h⟩ | ⟨a, xs, rfl, h⟩ | ⟨a, dx, fs, rfl, h⟩ | ⟨a', rs', b', rfl, h, ok', k⟩
  · exact far (.type "NoneType") (by simp) (.base .non)
  · exact far (.type "str") (by simp) (.base (.str x))
  · exact far (.type "tuple") (by simp) (.base (.tup h))
  · exact far (.type "list") (by simp) (.base (.lst h))
  · exact far (.ref CS) (by simp) (M.IS.ty h)
  · obtain ⟨dx, D, vs, i1, _⟩ := id h
    refine ⟨.ref C, M.I.ty i1, by simp [PySem.W.notFirst], m, rs, b, _, rfl, sm, ok, .inr ⟨a', rs', b', rfl, h, ok', ?_⟩⟩
    have e : (decide (rs = rs') && decide (b = b')) = false := by
      rcases k with k | k
      · rw [decide_eq_false k]
        rfl
      · rw [decide_eq_false k, Bool.and_false]
    rw [e]
    exact q
theorem eq_ask {C CS m m' : Addr} {rs : List (List (List Str))} {b : Bool} {G : Hp} (M : SameM P w K mg base C CS) (sm : SameAt C G m rs b) (sm' : SameAt C G m' rs b) (ok : okRules rs) {Q : VK} {E : XK} (q : Q (.bl true) G) :
    ∃ t, TyX K G (.ref m') t ∧ PySem.W.notFirst K C t = true ∧ spEqS K C [.ref m, .ref m'] G Q E := by
  obtain ⟨dx, D, vs, i1, _⟩ := id sm'
  refine ⟨.ref C, M.I.ty i1, by simp [PySem.W.notFirst], m, rs, b, _, rfl, sm, ok, .inr ⟨m', rs, b, rfl, sm', ok, ?_⟩⟩
  rw [decide_eq_true rfl, decide_eq_true rfl]
  exact q
theorem rules_read {rs : List (List (List Str))} (h : okRules rs) : (textsV rs).map ruleV = rs.map some := by
  unfold textsV
  rw [List.map_map, List.map_map]
  exact List.map_congr_left fun r hr => text_rule (h.2 r hr)
theorem due_none {rs : List (List (List Str))} {b : Bool} (h : okRules rs) (h1 : 1 ≤ rs.length) : dueX (textsV rs) (.bl b) = none := by
  have hl : (textsV rs).length = rs.length := by
    unfold textsV
    rw [List.length_map, List.length_map]
  have h8 := h.1
  unfold dueX
  rw [hl, decide_eq_true (show (1 : Int) ≤ (rs.length : Int) by omega), decide_eq_true (show (rs.length : Int) ≤ 8 by omega), if_pos (show (true && true) = true from rfl), rules_read h, findIdx_none fun j o ho => ?_]
  · rfl
  · obtain ⟨r, _, rfl⟩ := map_at ho
    rfl
/-- right rules made a step -/
theorem made_right {C CE : Addr} {rs : List (List (List Str))} {b : Bool} {H : Hp} {Q : VK} (ok : okRules rs) (h1 : 1 ≤ rs.length) (k : ∀ x G', H x = none → Same H G' → SameAt C G' x rs b → Q (.ref x) G') : MadeQ K C CE (textsV rs) (.bl b) H Q := by
  refine ⟨fun v hv G' s => ?_, fun G' s => .inl ⟨b, rfl⟩, fun reason i hd => ?_, fun hd b' hb ho x dx D vs G' n s ix tD rv => ?_⟩
  · unfold textsV at hv
    obtain ⟨y, hy, rfl⟩ := List.mem_map.mp hv
    obtain ⟨r, hr, rfl⟩ := List.mem_map.mp hy
    have := right_ok (ok.2 r hr)
    exact .inl ⟨_, rfl, by omega⟩
  · rw [due_none ok h1] at hd
    cases hd
  · have hb := V.bl.inj hb
    subst hb
    rw [rules_read ok] at rv
    exact k x G' n s ⟨dx, D, vs, ix, tD, rv⟩
end
end K08
set_option Elab.async false
set_option linter.all false
set_option maxRecDepth 100000
set_option maxHeartbeats 16000000
namespace K08
open PySem PySem.Spec PyProof.Rows L2 TL Qh Qm Qp
abbrev tellN : List Str := ["_law_made_here", "_law_some", "_law_held", "_law_sides_here", "_law_one", "_law_head", "_law_value", "_law_others", "_law_turned", "_law_other"]
def spTells (C : Addr) : Sp := fun vs G Q _ => ∃ (m a : Addr) (rs : List (List (List Str))) (b : Bool), vs = [.ref m, .ref a, .bl b] ∧ G a = some (.lst (textsV rs)) ∧ okRules rs ∧ 1 ≤ rs.length ∧ (∀ r ∈ rs, sg (ruleText r) = true) ∧ SameAt C G m rs b ∧ ∀ G', Same G G' → Q (.bl true) G'
def E0' : XK := fun _ _ _ => False

def tHead : TE := fun σ G Q => ∃ b, σ[2]? = some (some (V.bl b)) ∧ Q (.str (headS b)) G
theorem iteE' {c : Bool} {A B : Prop} (hc : c = false) (h : B) : if c = true then A else B := by
  subst hc
  exact h
theorem iteT' {c : Bool} {A B : Prop} (hc : c = true) (h : A) : if c = true then A else B := by
  subst hc
  exact h
theorem SidesAt.kt {G G' : Hp} (k : ∀ a l, G a = some (.tup l) → G' a = some (.tup l)) : ∀ {as : List Addr} {r : List (List Str)}, SidesAt G as r → SidesAt G' as r
  | _, _, .nil => .nil
  | _, _, .cons h t => .cons (k _ _ h) (SidesAt.kt k t)
theorem RVs.kt {G G' : Hp} (k : ∀ a l, G a = some (.tup l) → G' a = some (.tup l)) : ∀ {vs : List V} {os : List (Option (List (List Str)))}, RVs G vs os → RVs G' vs os
  | _, _, .nil => .nil
  | _, _, .cons (o := o) h t => .cons (by
      cases o with
      | none => exact h
      | some r =>
        obtain ⟨q, e, as, h1, h2⟩ := h
        exact ⟨q, e, as, k _ _ h1, h2.kt k⟩) (RVs.kt k t)
theorem kp_tup {p : Addr} {G G' : Hp} {os : List V} (k : Kp p G G') (hp : G p = some (.lst os)) : ∀ a l, G a = some (.tup l) → G' a = some (.tup l) := fun a l h => k a _ (tup_ne_lst hp a l h) h
theorem SameAt.kp {C p a : Addr} {G G' : Hp} {os : List V} {rs : List (List (List Str))} {b : Bool} (h : SameAt C G a rs b) (k : Kp p G G') (hp : G p = some (.lst os)) : SameAt C G' a rs b := by
  obtain ⟨dx, D, vs, h1, h2, h3⟩ := h
  refine ⟨dx, D, vs, k _ _ (fun e => ?_) h1, kp_tup k hp _ _ h2, h3.kt (kp_tup k hp)⟩
  rw [e, hp] at h1
  cases h1
theorem OthV.kp {C CS p : Addr} {rs : List (List (List Str))} {b : Bool} {G G' : Hp} {v : V} {os : List V} (h : OthV C CS rs b G v) (k : Kp p G G') (hp : G p = some (.lst os)) (na : v ≠ .ref p) : OthV C CS rs b G' v := by
  rcases h with h | h | ⟨a, xs, rfl, h⟩ | ⟨a, xs, rfl, h⟩ | ⟨a, dx, fs, rfl, h⟩ | ⟨a', rs', b', rfl, h, q⟩
  · exact .inl h
  · exact .inr (.inl h)
  · exact .inr (.inr (.inl ⟨a, xs, rfl, kp_tup k hp _ _ h⟩))
  · exact .inr (.inr (.inr (.inl ⟨a, xs, rfl, k _ _ (fun e => na (by rw [e])) h⟩)))
  · exact .inr (.inr (.inr (.inr (.inl ⟨a, dx, fs, rfl, k _ _ (fun e => na (by rw [e])) h⟩))))
  · exact .inr (.inr (.inr (.inr (.inr ⟨a', rs', b', rfl, h.kp k hp, q⟩))))
def yx : List (List Str) := [[Str.ofString "y"], [Str.ofString "x"]]
theorem yx_right : rightR yx := ⟨by decide +kernel, by decide, by decide⟩
theorem yx_text : ruleText yx = Str.ofString "y = x" := by decide +kernel
theorem texts_len (rs : List (List (List Str))) : (textsV rs).length = rs.length := by
  unfold textsV
  rw [List.length_map, List.length_map]
theorem texts_dp {K : PySem.W.Frag} {G : Hp} (rs : List (List (List Str))) : DpAll K G (textsV rs) ((rs.map ruleText).map PyData.str) := dp_strs _
theorem texts_shaped {rs : List (List (List Str))} (h : okRules rs) : SeqAt.shaped (.list ((rs.map ruleText).map PyData.str)) = true := shaped_strsL _ fun y hy => by
  obtain ⟨r, hr, rfl⟩ := List.mem_map.mp hy
  have hp := rule_plain (h.2 r hr).1
  refine (txt_iff _).mpr fun c hc => ?_
  have := List.all_eq_true.mp hp c hc
  unfold plainC ltr at this
  simp only [Bool.or_eq_true, beq_iff_eq, Bool.and_eq_true, decide_eq_true_eq] at this
  omega
theorem texts_eqv (rs rs' : List (List (List Str))) : PyData.eqv (.list ((rs.map ruleText).map PyData.str)) (.list ((rs'.map ruleText).map PyData.str)) = decide (rs.map ruleText = rs'.map ruleText) := by
  rw [PyData.eqv]
  exact eqvAll_inj eqv_str _ _
theorem texts_at {rs : List (List (List Str))} {i : Nat} {v : V} (h : (textsV rs)[i]? = some v) : ∃ r, rs[i]? = some r ∧ v = .str (ruleText r) := by
  obtain ⟨y, hy, rfl⟩ := map_at h
  obtain ⟨r, hr, rfl⟩ := map_at hy
  exact ⟨r, hr, rfl⟩
section
variable {P : Program} {w : World} {K : PySem.W.Frag} {mg : Str → Option Value} {base : Heap}
theorem OthV.rEq {C CS m : Addr} {rs : List (List (List Str))} {b : Bool} {G : Hp} {v : V} (M : SameM P w K mg base C CS) (h : OthV C CS rs b G v) (sm : SameAt C G m rs b) (ok : okRules rs) {Q : VK} {E : XK} (q : Q (.bl false) G) : rOwnI K C (spEqS K C) E (.ref m) v G Q := by
  obtain ⟨t, ty, hn, sp⟩ := OthV.ask M h sm ok (Q := Q) (E := E) q
  obtain ⟨dx, D, vs, i1, _⟩ := sm
  exact ⟨m, dx, _, t, rfl, i1, ty, hn, sp⟩
theorem OthV.rNe {C CS m : Addr} {rs : List (List (List Str))} {b : Bool} {G : Hp} {v : V} (M : SameM P w K mg base C CS) (h : OthV C CS rs b G v) (sm : SameAt C G m rs b) (ok : okRules rs) {Q : VK} {E : XK} (q : Q (.bl true) G) : rOwnNe K C (spEqS K C) E (.ref m) v G Q := by
  obtain ⟨t, ty, hn, sp⟩ := OthV.ask M h sm ok (Q := fun v H' => ∃ k, v = .bl k ∧ Q (.bl (!k)) H') (E := E) ⟨false, rfl, q⟩
  obtain ⟨dx, D, vs, i1, _⟩ := sm
  exact ⟨m, dx, _, t, rfl, i1, ty, hn, sp⟩
theorem eq_rEq {C CS m m' : Addr} {rs : List (List (List Str))} {b : Bool} {G : Hp} (M : SameM P w K mg base C CS) (sm : SameAt C G m rs b) (sm' : SameAt C G m' rs b) (ok : okRules rs) {Q : VK} {E : XK} (q : Q (.bl true) G) : rOwnI K C (spEqS K C) E (.ref m) (.ref m') G Q := by
  obtain ⟨t, ty, hn, sp⟩ := eq_ask M sm sm' ok (Q := Q) (E := E) q
  obtain ⟨dx, D, vs, i1, _⟩ := sm
  exact ⟨m, dx, _, t, rfl, i1, ty, hn, sp⟩
theorem eq_rNe {C CS m m' : Addr} {rs : List (List (List Str))} {b : Bool} {G : Hp} (M : SameM P w K mg base C CS) (sm : SameAt C G m rs b) (sm' : SameAt C G m' rs b) (ok : okRules rs) {Q : VK} {E : XK} (q : Q (.bl false) G) : rOwnNe K C (spEqS K C) E (.ref m) (.ref m') G Q := by
  obtain ⟨t, ty, hn, sp⟩ := eq_ask M sm sm' ok (Q := fun v H' => ∃ k, v = .bl k ∧ Q (.bl (!k)) H') (E := E) ⟨true, rfl, q⟩
  obtain ⟨dx, D, vs, i1, _⟩ := sm
  exact ⟨m, dx, _, t, rfl, i1, ty, hn, sp⟩
theorem scTells : FnScope tellN ["_law_made_here", "_law_some", "_law_held"] (defScope sTells) := ⟨rfl, rfl, rfl, by decide +kernel, rfl, by decide +kernel, by decide +kernel⟩
theorem ok_tells {C CS CE : Addr} (D : DefIn K mg "_law_tells" sTells) (B : Blt mg) (M : SameM P w K mg base C CS) (F__law_read : Ok P w K mg base "_law_read" (defArgs sRead) ["_law_value"] 2 (spRead K))
    (F__law_made : Ok P w K mg base "_law_made" (defArgs sMade) ["_law_some", "_law_held"] 8 (spMade K C CE)) : OkG P w K mg base "_law_tells" (defArgs sTells) ["_law_made_here", "_law_some", "_law_held"] 9 (spTells C) := by
  refine D.okG scTells (fun vs G Q E h => ?_) (fun _ _ _ _ _ _ us hl => match us, hl with | [_, _, _], _ => rfl) (fun f cdv A out t G vs Q E gu hr h => ?_)
  · obtain ⟨m, a, rs, b, rfl, _⟩ := h
    rfl
  · obtain ⟨m, a, rs, b, rfl, hS, ok, h1, hsg, sm0, k⟩ := h
    have hu64 := hr.units
    have hgu : (A.deeper (envOfC (Str.ofString "_law_tells") (defScope sTells) t.heap.objs.size f cdv)).guards = some [] := gu
    obtain ⟨gE, iE, fE, FE⟩ := M.eqf
    obtain ⟨gR, iR, fR, FR⟩ := M.rp
    obtain ⟨gT, iT, fT, FT⟩ := M.st
    obtain ⟨fD, fdD, MD, bD, FD⟩ := M.rs
    refine ⟨_, (pss_cons (ps_set (i := 3) scTells.nd rfl (by first | exact Or.inl rfl | exact Or.inr rfl) (pe_callTy cn_tuple (by rfl) B.n_tuple bt_tuple (pa_cons (pe_lc (own := [("_law_one", 4)]) (tt := tYes) rfl scTells.nd (pi_list (pv 1)) (blkOk_by (N := tellN) (sc := defScope sTells) (by decide +kernel)) (fun _ _ _ _ _ => pg_name (i := 4) scTells.nd rfl (by first | exact Or.inl rfl | exact Or.inr rfl)) (fun _ _ _ _ _ => pts_nil) (fun _ _ _ _ _ => (pe_own F__law_read (hr.mono (by decide)) takes0 (pa_cons (pv 4) pa_nil)))) pa_nil)))
    (pss_cons (ps_if (PW.pt (pw_or (pt_cmpR op_ne (pe_callB (call_repr hgu hu64) (by rfl) B.n_repr bt_repr (pa_cons (pn_lst (pa_cons (pe_fld (pv 0) rfl) (pa_cons (pe_fld (pv 0) rfl) pa_nil))) pa_nil)) (pe_callB (call_repr hgu hu64) (by rfl) B.n_repr bt_repr (pa_cons (pn_lst (pa_cons (pv 3) (pa_cons (pv 2) pa_nil))) pa_nil)) (nomark _)) (pw_or1 (pt_not (pt_val (pe_callB call_isi (by rfl) B.n_isinstance bt_isinstance (pa_cons (pv 0) (pa_cons (pe_glob (v := .ref CS) rfl M.gS rfl) pa_nil)))))))) (pss_one (ps_ret pe_bl)) pss_nil)
    (pss_cons (ps_set (i := 5) scTells.nd rfl (by first | exact Or.inl rfl | exact Or.inr rfl) (pe_imp (te' := tHead) (pe_ifExp (pt_val (pv 2)) pe_str pe_str) fun σ G Q h => Exists.elim h fun b h => ⟨.bl b, h.1, b, rfl, by cases b <;> exact h.2⟩))
    (pss_cons (ps_if (pt_cmpR op_ne (pe_callTy (call_strOwn iT fT FT (hr.mono (by decide)) passL) (by rfl) B.n_str bt_str (pa_cons (pv 0) pa_nil)) (pe_bm PySem.F.plainAttrs_str PySem.F.slot_str_join PySem.F.type_str_join mt_join pe_str (pa_cons (pe_lc (own := [("_law_one", 4)]) (tt := tYes) rfl scTells.nd (pi_list (pv 1)) (blkOk_by (N := tellN) (sc := defScope sTells) (by decide +kernel)) (fun _ _ _ _ _ => pg_name (i := 4) scTells.nd rfl (by first | exact Or.inl rfl | exact Or.inr rfl)) (fun _ _ _ _ _ => pts_nil) (fun _ _ _ _ _ => (pe_op op_add_str (pv 5) (pv 4)))) pa_nil)) (nomark _)) (pss_one (ps_ret pe_bl)) pss_nil)
    (pss_cons (ps_if (pt_cmpR op_ne (pe_callB (call_reprOwn iR fR FR (hr.mono (by decide)) passL) (by rfl) B.n_repr bt_repr (pa_cons (pv 0) pa_nil)) (pe_op op_add_str (pe_op op_add_str pe_str (pe_bm PySem.F.plainAttrs_str PySem.F.slot_str_join PySem.F.type_str_join mt_join pe_str (pa_cons (pe_lc (own := [("_law_one", 4)]) (tt := tYes) rfl scTells.nd (pi_list (pv 1)) (blkOk_by (N := tellN) (sc := defScope sTells) (by decide +kernel)) (fun _ _ _ _ _ => pg_name (i := 4) scTells.nd rfl (by first | exact Or.inl rfl | exact Or.inr rfl)) (fun _ _ _ _ _ => pts_nil) (fun _ _ _ _ _ => (pe_op op_add_str (pe_op op_add_str pe_str (pv 4)) pe_str))) pa_nil))) pe_str) (nomark _)) (pss_one (ps_ret pe_bl)) pss_nil)
    (pss_cons (ps_if (pt_cmpR (op_neD hu64) (pe_lc (own := [("_law_value", 6)]) (tt := _) rfl scTells.nd (pi_tup (pn_tup (pa_cons pe_str (pa_cons pe_str (pa_cons pe_non (pa_cons pe_str pa_nil)))))) (blkOk_by (N := tellN) (sc := defScope sTells) (by decide +kernel)) (fun _ _ _ _ _ => pg_name (i := 6) scTells.nd rfl (by first | exact Or.inl rfl | exact Or.inr rfl)) (fun _ _ _ _ _ => pts_one (pt_cmpR op_ne (pe_callB call_reprF (by rfl) B.n_repr bt_repr (pa_cons (pe_meth (pv 0) M.I.cl MD FD (hr.mono (by decide)) bD .nil passL (pa_cons (pv 6) pa_nil)) pa_nil)) (pe_callB call_reprF (by rfl) B.n_repr bt_repr (pa_cons (pv 6) pa_nil)) (nomark _))) (fun _ _ _ _ _ => (pv 6))) (pn_lst pa_nil) (nomark _)) (pss_one (ps_ret pe_bl)) pss_nil)
    (pss_cons (ps_set (i := 7) scTells.nd rfl (by first | exact Or.inl rfl | exact Or.inr rfl) (pn_lst (pa_cons pe_non (pa_cons (pe_callTy (call_strOwn iT fT FT (hr.mono (by decide)) passL) (by rfl) B.n_str bt_str (pa_cons (pv 0) pa_nil)) (pa_cons (pv 3) (pa_cons (pv 1) (pa_cons (pe_plain M.mkS M.hiS M.IS.hm M.kpS M.gS) (pa_cons (pe_own F__law_made hr takes0 (pa_cons (pv 1) (pa_cons (pe_not (pv 2)) pa_nil))) (pa_cons (pe_own F__law_made hr takes0 (pa_cons (pe_op on_cat (pe_slice sl_list (pv 1) po_none (po_some pe_int)) (pn_lst (pa_cons pe_str pa_nil))) (pa_cons (pv 2) pa_nil))) pa_nil)))))))))
    (pss_cons (ps_set (i := 8) scTells.nd rfl (by first | exact Or.inl rfl | exact Or.inr rfl) (pe_op on_cat (pn_lst (pa_cons (pe_bm PySem.F.plainAttrs_str PySem.F.slot_str_join PySem.F.type_str_join mt_join pe_str (pa_cons (pe_revL (pe_bm PySem.F.plainAttrs_str PySem.F.slot_str_split PySem.F.type_str_split mt_split (pe_ix ix_list (pv 1) pe_int (fun _ _ => rfl)) (pa_cons pe_str pa_nil))) pa_nil)) pa_nil)) (pe_slice sl_list (pv 1) (po_some pe_int) po_none)))
    (pss_cons (ps_for (passes_of rfl) rfl (pi_tup (pn_tup (pa_cons (pe_revL (pv 1)) (pa_cons (pv 8) pa_nil)))) (pg_name (i := 9) scTells.nd rfl (by first | exact Or.inl rfl | exact Or.inr rfl))
      (pss_one (ps_if (pt_cmpR (op_neD hu64) (pv 9) (pv 1) (nomark _)) (pss_one (ps_expr (pe_bm PySem.F.plainAttrs_list PySem.F.slot_list_append PySem.F.type_list_append mt_append (pv 7) (pa_cons (pe_own F__law_made hr takes0 (pa_cons (pv 9) (pa_cons (pv 2) pa_nil))) pa_nil)))) pss_nil)))
    (pss_cons (ps_if (pt_cmpR (op_neD hu64) (pe_lc (own := [("_law_one", 4)]) (tt := _) rfl scTells.nd (pi_list (pv 7)) (blkOk_by (N := tellN) (sc := defScope sTells) (by decide +kernel)) (fun _ _ _ _ _ => pg_name (i := 4) scTells.nd rfl (by first | exact Or.inl rfl | exact Or.inr rfl)) (fun _ _ _ _ _ => pts_one (PW.pt (pw_or (pt_cmpR (r := rOwnI K C (spEqS K C) E0') (op_ownEq iE fE FE (hr.mono (by decide)) passL) (pv 0) (pv 4) (nomark _)) (pw_or1 (pt_not (pt_cmpR (r := rOwnNe K C (spEqS K C) E0') (op_ownNe M.I.hm M.ne iE fE FE (hr.mono (by decide)) passL) (pv 0) (pv 4) (nomark _))))))) (fun _ _ _ _ _ => (pv 4))) (pn_lst pa_nil) (nomark _)) (pss_one (ps_ret pe_bl)) pss_nil)
    (pss_one (ps_ret (pe_and (pe_cmpR (op_ownEq iE fE FE (hr.mono (by decide)) passL) (pv 0) (pe_own F__law_made hr takes0 (pa_cons (pe_callTy cn_list (by rfl) B.n_list bt_list (pa_cons (pv 1) pa_nil)) (pa_cons (pv 2) pa_nil))) (nomark _)) (pe_one (pe_not (pe_cmpR (op_ownNe M.I.hm M.ne iE fE FE (hr.mono (by decide)) passL) (pv 0) (pe_own F__law_made hr takes0 (pa_cons (pv 1) (pa_cons (pv 2) pa_nil))) (nomark _))))))))))))))))), ?_⟩
    have hT := M.T
    obtain ⟨dx, D0, vs0, i1, i2, i3⟩ := id sm0
    have tl1 := texts_len rs
    have h8 := ok.1
    -- the sides
    refine ⟨_, rfl, a, rfl, ⟨_, SqL.of hS⟩, fun D hD => ?_⟩
    refine lc_list (xs := textsV rs) (fun i G' => ∃ vs, Same G G' ∧ G' D = some (.lst vs) ∧ RVs G' vs ((rs.take i).map some) ∧ vs.length = i) ⟨[], Same.new hD, upd_same, .nil, rfl⟩ (fun i G' _ ⟨_, sm, _⟩ => SqL.of (sm _ _ hS)) ?_ ?_
    · rintro i v G1 hi ⟨vs, sm, hl, hv, hn⟩
      obtain ⟨r, hri, rfl⟩ := texts_at hi
      have hm := List.mem_of_getElem? hri
      have hil := (List.getElem?_eq_some_iff.mp hri).1
      have er : ruleV (.str (ruleText r)) = some r := text_rule (ok.2 r hm)
      have hlen := (right_ok (ok.2 r hm)).2
      refine ⟨rfl, ?_⟩
      refine ⟨_, rfl, .str (ruleText r), rfl, .inl ⟨_, rfl, by omega, sg_txt (hsg r hm)⟩, fun e => ?_, fun r' e q G2 s2 ra => ?_⟩
      · rw [er] at e
        cases e
      · rw [er] at e
        cases e
        have hl2 := s2 _ _ hl
        refine ⟨vs, hl2, by rw [hn]; exact big_line' (by omega), vs ++ [.ref q], Qh.Same.fresh (sm.trans s2) hD, upd_same, ?_, by simp [hn]⟩
        rw [take_get hri, List.map_append]
        exact rvs_put (tup_ne_lst hl2) (RVs.snoc (o := some r) ⟨q, rfl, ra⟩ (hv.same s2))
    rintro G1 ⟨vs, sm, hl, hv, hn⟩
    rw [tl1, List.take_length] at hv
    refine ⟨D, vs, rfl, SqL.of hl, fun q G2 nq sq lq => ?_⟩
    have S2 := sm.trans sq
    have hv2 := hv.same sq
    have pd := pair_data (b := b) ok
    -- rules and keep
    refine ⟨_, rfl, m, C, dx, _, _, rfl, S2 _ _ i1, hT.cl, hT.n1, rfl, _, rfl, m, C, dx, _, _, rfl, S2 _ _ i1, hT.cl, hT.n2, rfl, by show 2 ≤ sizeLine; decide, fun p1 G3 n3 s3 l3 => ?_⟩
    have S3 := S2.trans s3
    refine ⟨p1, pairD rs b, rfl, .lst (SqL.of l3) (.cons (.tup (SqT.of (S3 _ _ i2)) (rules_dp (i3.same S3))) (.cons (.bl b) .nil)), pd.1, pd.2.1, pd.2.2.1, pd.2.2.2, ?_⟩
    refine ⟨_, rfl, _, rfl, by show 2 ≤ sizeLine; decide, fun p2 G4 n4 s4 l4 => ?_⟩
    have S4 := S3.trans s4
    have q4 : Same G2 G4 := s3.trans s4
    refine ⟨p2, pairD rs b, rfl, .lst (SqL.of l4) (.cons (.tup (SqT.of (q4 _ _ lq)) (rules_dp (hv2.same q4))) (.cons (.bl b) .nil)), pd.1, pd.2.1, pd.2.2.1, pd.2.2.2, ?_⟩
    refine ⟨rfl, _, rfl, iteE' (by simp) ?_⟩
    refine ⟨_, rfl, _, _, _, _, _, rfl, .own CS, M.I.ty (S4 _ _ i1), M.kSS, _, rfl, iteE' rfl ?_⟩
    -- the head
    refine ⟨b, rfl, ?_⟩
    -- str
    refine ⟨_, rfl, m, dx, _, rfl, S4 _ _ i1, m, rs, b, rfl, sm0.same S4, ok, fun G5 s5 => ⟨_, rfl, ?_⟩⟩
    have S5 := S4.trans s5
    refine ⟨rfl, _, rfl, a, rfl, ⟨_, SqL.of (S5 _ _ hS)⟩, fun D5 hD5 => ?_⟩
    have lsum : ∀ r ∈ rs, (headS b).length + (ruleText r).length ≤ 306 := fun r hr => by
      have := line_len (b := b) (ok.2 r hr)
      unfold lineS at this
      rw [add_len] at this
      exact this
    refine lc_list (xs := textsV rs) (fun i G' => Same G5 G' ∧ G' D5 = some (.lst (((rs.map (lineS b)).take i).map V.str))) ⟨Same.new hD5, upd_same⟩ (fun i G' _ ⟨s, _⟩ => SqL.of (s _ _ (S5 _ _ hS))) ?_ ?_
    · rintro i v G6 hi ⟨s6, l6⟩
      obtain ⟨r, hri, rfl⟩ := texts_at hi
      have hm := List.mem_of_getElem? hri
      have hil := (List.getElem?_eq_some_iff.mp hri).1
      have hls := lsum r hm
      refine ⟨rfl, ?_⟩
      refine ⟨_, rfl, _, rfl, _, _, rfl, rfl, big_line (by omega), _, l6, by rw [List.length_map, List.length_take]; exact big_line' (by omega), Qh.Same.fresh s6 hD5, ?_⟩
      rw [upd_same, take_get (by rw [List.getElem?_map, hri]; rfl), List.map_append]
      rfl
    rintro G6 ⟨s6, l6⟩
    rw [tl1, List.take_of_length_le (by rw [List.length_map]; exact Nat.le_refl _)] at l6
    have S6 := S5.trans s6
    refine ⟨nl, D5, rs.map (lineS b), rfl, rfl, .inl (SqL.of l6), ?_, rfl, _, rfl, iteE' (by show (!decide (V.str (strS rs b) = V.str (strS rs b))) = false; simp) ?_⟩
    · have h1 := sum_le (l := (rs.map (lineS b)).map (·.length)) (m := 306) fun z hz => by
        obtain ⟨y, hy', rfl⟩ := List.mem_map.mp hz
        obtain ⟨x, hx, rfl⟩ := List.mem_map.mp hy'
        exact line_len (ok.2 x hx)
      have e2 : nl.length = 1 := by decide +kernel
      rw [List.length_map, List.length_map] at h1
      rw [e2, List.length_map]
      omega
    -- repr
    refine ⟨_, rfl, m, dx, _, rfl, S6 _ _ i1, m, rs, b, rfl, sm0.same S6, ok, fun G7 s7 => ⟨_, rfl, ?_⟩⟩
    have S7 := S6.trans s7
    refine ⟨rfl, _, rfl, a, rfl, ⟨_, SqL.of (S7 _ _ hS)⟩, fun D7 hD7 => ?_⟩
    have qq : (Str.ofString "'").length = 1 := by decide +kernel
    refine lc_list (xs := textsV rs) (fun i G' => Same G7 G' ∧ G' D7 = some (.lst (((rs.map fun r => reprText (ruleText r)).take i).map V.str))) ⟨Same.new hD7, upd_same⟩ (fun i G' _ ⟨s, _⟩ => SqL.of (s _ _ (S7 _ _ hS))) ?_ ?_
    · rintro i v G8 hi ⟨s8, l8⟩
      obtain ⟨r, hri, rfl⟩ := texts_at hi
      have hm := List.mem_of_getElem? hri
      have hil := (List.getElem?_eq_some_iff.mp hri).1
      have hls := (right_ok (ok.2 r hm)).2
      refine ⟨rfl, ?_⟩
      refine ⟨_, rfl, _, _, rfl, rfl, big_line (by omega), _, _, rfl, rfl, by rw [add_len]; exact big_line (by omega), _, l8, by rw [List.length_map, List.length_take]; exact big_line' (by omega), Qh.Same.fresh s8 hD7, ?_⟩
      rw [upd_same, take_get (a := reprText (ruleText r)) (by rw [List.getElem?_map, hri]; rfl), List.map_append, repr_rule (ok.2 r hm).1]
      rfl
    rintro G8 ⟨s8, l8⟩
    rw [tl1, List.take_of_length_le (by rw [List.length_map]; exact Nat.le_refl _)] at l8
    have S8 := S7.trans s8
    have hrl : ∀ p ∈ rs.map (fun r => reprText (ruleText r)), p.length ≤ 400 := fun p hp => by
      obtain ⟨r, hr', rfl⟩ := List.mem_map.mp hp
      exact repr_len (ok.2 r hr')
    have hj := joined_len (sep := comma) hrl
    have e2 : comma.length = 2 := by decide +kernel
    rw [List.length_map, e2] at hj
    have e5 : (Str.ofString "Same(").length = 5 := by decide +kernel
    have e6 : (Str.ofString ")").length = 1 := by decide +kernel
    refine ⟨comma, D7, rs.map (fun r => reprText (ruleText r)), rfl, rfl, .inl (SqL.of l8), ?_, _, _, rfl, rfl, big_line (by omega), _, _, rfl, rfl, by rw [add_len]; exact big_line (by omega), rfl, _, rfl, iteE' (by show (!decide (V.str (reprS rs) = V.str (reprS rs))) = false; simp) ?_⟩
    · have h1 := sum_le (l := (rs.map (fun r => reprText (ruleText r))).map (·.length)) (m := 400) fun z hz => by
        obtain ⟨y, hy', rfl⟩ := List.mem_map.mp hz
        exact hrl y hy'
      rw [List.length_map, List.length_map] at h1
      rw [e2, List.length_map]
      omega
    -- results
    refine ⟨by show 4 ≤ sizeLine; decide, fun t1 G9 n9 s9 l9 => ⟨t1, rfl, ⟨_, SqT.of l9⟩, fun D9 hD9 => ?_⟩⟩
    have S9 := S8.trans s9
    refine lc_tup (xs := [V.str (Str.ofString "a"), V.str (Str.ofString "*"), V.non, V.str (Str.ofString "abcdefghij")]) (fun i G' => Same G9 G' ∧ G' D9 = some (.lst [])) ⟨Same.new hD9, upd_same⟩ (fun i G' _ ⟨s, _⟩ => SqT.of (s _ _ l9)) ?_ ?_
    · rintro i v G10 hi ⟨s10, l10⟩
      have hv : (∃ y, v = .str y ∧ (reprText y).length ≤ sizeLine) ∨ v = .non := by
        have hm := List.mem_of_getElem? hi
        simp only [List.mem_cons, List.not_mem_nil, or_false] at hm
        rcases hm with rfl | rfl | rfl | rfl
        · exact .inl ⟨_, rfl, by decide +kernel⟩
        · exact .inl ⟨_, rfl, by decide +kernel⟩
        · exact .inr rfl
        · exact .inl ⟨_, rfl, by decide +kernel⟩
      have S10 := S9.trans s10
      refine ⟨rfl, ?_⟩
      refine ⟨_, rfl, m, dx, _, rfl, S10 _ _ i1, rfl, _, rfl, m, v, rfl, ?_⟩
      rcases hv with ⟨y, rfl, hy⟩ | rfl
      · exact .inl ⟨y, rfl, hy, _, rfl, .inl ⟨y, rfl, hy, rfl, _, rfl, iteE' (by simp) ⟨s10, l10⟩⟩⟩
      · exact .inr ⟨rfl, _, rfl, .inr ⟨rfl, rfl, _, rfl, iteE' (by simp) ⟨s10, l10⟩⟩⟩
    rintro G10 ⟨s10, l10⟩
    refine ⟨by show 0 ≤ sizeLine; decide, fun p11 G11 n11 s11 l11 => ?_⟩
    refine ⟨.list [], .list [], .lst (SqL.of (s11 _ _ l10)) .nil, .lst (SqL.of l11) .nil, rfl, rfl, _, rfl, iteE' rfl ?_⟩
    have S11 := (S9.trans s10).trans s11
    -- the others
    refine ⟨_, rfl, m, dx, _, rfl, S11 _ _ i1, m, rs, b, rfl, sm0.same S11, ok, fun G12 s12 => ⟨_, rfl, ?_⟩⟩
    have S12 := S11.trans s12
    refine ⟨_, rfl, _, rfl, fun x3 dx3 nx3 nd3 ne3 => ?_⟩
    have s13 : Same G12 (L2.upd (L2.upd G12 dx3 (.own x3)) x3 (.ins CS dx3 [])) := fun c o e => by
      rw [upd_ne (ne_of_none e nx3), upd_ne (ne_of_none e nd3)]
      exact e
    have l13 : (L2.upd (L2.upd G12 dx3 (.own x3)) x3 (.ins CS dx3 [])) x3 = some (.ins CS dx3 []) := upd_same
    generalize L2.upd (L2.upd G12 dx3 (.own x3)) x3 (.ins CS dx3 []) = G13 at s13 l13
    have S13 := S12.trans s13
    refine ⟨_, rfl, _, rfl, b, rfl, a, textsV rs, .bl (!b), rfl, SqL.of (S13 _ _ hS), by omega, made_right ok h1 fun x4 G14 n14 s14 sa4 => ?_⟩
    have S14 := S13.trans s14
    refine ⟨_, rfl, 7, rfl, a, _, rfl, SqL.of (S14 _ _ hS), fun p5 np5 => ?_⟩
    have s15 : Same G14 (L2.upd G14 p5 (.lst (cutV (textsV rs) none (some 7)))) := Same.new np5
    have l15 : (L2.upd G14 p5 (.lst (cutV (textsV rs) none (some 7)))) p5 = some (.lst (textsV (rs.take 7))) := by
      rw [upd_same, show (some (7 : Int)) = some ((7 : Nat) : Int) from rfl, cut_take]
      unfold textsV
      rw [List.map_take, List.map_take]
    generalize L2.upd G14 p5 (.lst (cutV (textsV rs) none (some 7))) = G15 at s15 l15
    refine ⟨by show 1 ≤ sizeLine; decide, fun p6 G16 n16 s16 l16 => ?_⟩
    refine ⟨p5, p6, _, _, rfl, rfl, s16 _ _ l15, l16, by rw [texts_len, List.length_take]; exact big_line (by show _ + 1 ≤ 1000000; omega), fun p7 G17 n17 s17 l17 => ?_⟩
    have S17 := ((S14.trans s15).trans s16).trans s17
    have e17 : textsV (rs.take 7) ++ [V.str (Str.ofString "y = x")] = textsV (rs.take 7 ++ [yx]) := by
      unfold textsV
      rw [List.map_append, List.map_append, ← yx_text]
      rfl
    rw [e17] at l17
    have ok7 : okRules (rs.take 7 ++ [yx]) := by
      refine ⟨by rw [List.length_append, List.length_take]; show _ + 1 ≤ 8; omega, fun r hr => ?_⟩
      rcases List.mem_append.mp hr with hr | hr
      · exact ok.2 r (List.mem_of_mem_take hr)
      · rw [List.mem_singleton.mp hr]
        exact yx_right
    have h17 : 1 ≤ (rs.take 7 ++ [yx]).length := by rw [List.length_append]; show 1 ≤ _ + 1; omega
    have hl17 : (rs.take 7 ++ [yx]).length ≤ 8 := ok7.1
    refine ⟨_, rfl, p7, textsV (rs.take 7 ++ [yx]), .bl b, rfl, SqL.of l17, by rw [texts_len]; omega, made_right ok7 h17 fun x8 G18 n18 s18 sa8 => ?_⟩
    have S18 := S17.trans s18
    refine ⟨by show 7 ≤ sizeLine; decide, fun p9 G19 n19 s19 l19 => ?_⟩
    have S19 := S18.trans s19
    have t19 : Same G14 G19 := (((s15.trans s16).trans s17).trans s18).trans s19
    have u19 : Same G13 G19 := s14.trans t19
    have w19 : Same G2 G19 := (((((((((s3.trans s4).trans s5).trans s6).trans s7).trans s8).trans s9).trans s10).trans s11).trans s12).trans (s13.trans u19)
    have fresh9 : ∀ {c : Addr} {o : HO}, G18 c = some o → c ≠ p9 := fun e => ne_of_none e n19
    have oth19 : ∀ v ∈ [V.non, .str (strS rs b), .ref q, .ref a, .ref x3, .ref x4, .ref x8], OthV C CS rs b G19 v ∧ v ≠ .ref p9 := by
      have ne : ∀ {c : Addr} {o : HO}, G18 c = some o → V.ref c ≠ V.ref p9 := fun e z => fresh9 e (V.ref.inj z)
      obtain ⟨dx4, D4, vs4, j4, _⟩ := id sa4
      obtain ⟨dx8, D8, vs8, j8, _⟩ := id sa8
      have back : Same G14 G18 := ((s15.trans s16).trans s17).trans s18
      have back2 : Same G2 G18 := (((((((((s3.trans s4).trans s5).trans s6).trans s7).trans s8).trans s9).trans s10).trans s11).trans s12).trans (s13.trans (s14.trans back))
      refine all_cons ⟨.inl rfl, fun z => nomatch z⟩ (all_cons ⟨.inr (.inl ⟨_, rfl⟩), fun z => nomatch z⟩ (all_cons ⟨.inr (.inr (.inl ⟨q, vs, rfl, w19 _ _ lq⟩)), ne (back2 _ _ lq)⟩ (all_cons ⟨.inr (.inr (.inr (.inl ⟨a, _, rfl, S19 _ _ hS⟩))), ne (S18 _ _ hS)⟩
        (all_cons ⟨.inr (.inr (.inr (.inr (.inl ⟨x3, dx3, [], rfl, u19 _ _ l13⟩)))), ne ((s14.trans back) _ _ l13)⟩ (all_cons ⟨.inr (.inr (.inr (.inr (.inr ⟨x4, rs, !b, rfl, sa4.same t19, ok, .inr (by cases b <;> decide)⟩)))), ne (back _ _ j4)⟩
        (all_cons ⟨.inr (.inr (.inr (.inr (.inr ⟨x8, _, b, rfl, sa8.same s19, ok7, .inl fun e => ?_⟩)))), ne j8⟩ all_nil))))))
      have hm : yx ∈ rs := by
        rw [e]
        exact List.mem_append_right _ List.mem_cons_self
      have := sg_x (hsg yx hm)
      rw [yx_text] at this
      exact this (by decide +kernel)
    -- turned
    obtain ⟨r0, rest, rfl⟩ : ∃ r0 rest, rs = r0 :: rest := by
      cases rs with
      | nil => exact absurd h1 (by decide)
      | cons r0 rest => exact ⟨r0, rest, rfl⟩
    have hr0 : rightR r0 := ok.2 r0 List.mem_cons_self
    have hss : (Txt.split (ruleText r0) eqs).map partsOf = r0 := by
      have := text_rule hr0
      unfold ruleS at this
      split at this
      · exact Option.some.inj this
      · cases this
    have hsj : r0.map (Txt.join blank) = Txt.split (ruleText r0) eqs := by
      have e : r0.map (Txt.join blank) = ((Txt.split (ruleText r0) eqs).map partsOf).map (Txt.join blank) := by rw [hss]
      rw [e, List.map_map]
      have e2 : (Txt.split (ruleText r0) eqs).map (Txt.join blank ∘ partsOf) = (Txt.split (ruleText r0) eqs).map id := List.map_congr_left fun y _ => by
        apply ext_tl
        show tl (Txt.join blank (partsOf y)) = tl y
        rw [join_eq, tl_join, tl_blank, Qh.parts_spl, join_parts, List.nil_append]
      rw [e2, List.map_id]
    have hr0l := right_ok hr0
    refine ⟨rfl, _, rfl, a, _, 0, .str (ruleText r0), rfl, rfl, SqL.of (S19 _ _ hS), atI_nat (j := 0) rfl, rfl, ruleText r0, eqs, rfl, rfl, by decide +kernel, by have := sizeLine_eq; omega, fun q8 n20 => ?_⟩
    have s20 : Same G19 (L2.upd G19 q8 (.lst ((Txt.split (ruleText r0) eqs).map V.str))) := Same.new n20
    refine ⟨q8, _, rfl, SqL.of upd_same, fun q9 n21 => ?_⟩
    have s21 := s20.trans (Same.new (o := .lst ((Txt.split (ruleText r0) eqs).map V.str).reverse) n21)
    have l21 : (L2.upd (L2.upd G19 q8 (.lst ((Txt.split (ruleText r0) eqs).map V.str))) q9 (.lst ((Txt.split (ruleText r0) eqs).map V.str).reverse)) q9 = some (.lst ((r0.reverse.map (Txt.join blank)).map V.str)) := by
      rw [upd_same, ← hsj, List.map_reverse, List.map_reverse]
    generalize L2.upd (L2.upd G19 q8 (.lst ((Txt.split (ruleText r0) eqs).map V.str))) q9 (.lst ((Txt.split (ruleText r0) eqs).map V.str).reverse) = G21 at s21 l21
    have hrv := right_rev hr0
    refine ⟨eqs, q9, r0.reverse.map (Txt.join blank), rfl, rfl, .inl (SqL.of l21), ?_, by show 1 ≤ sizeLine; decide, fun p10 G22 n22 s22 l22 => ?_⟩
    · have h2 := size_text r0.reverse
      have h3 := (right_ok hrv).1
      have e3 : eqs.length = 3 := by decide +kernel
      rw [e3, List.length_map]
      omega
    have S22 := (S19.trans s21).trans s22
    refine ⟨_, rfl, 1, rfl, a, _, rfl, SqL.of (S22 _ _ hS), fun p11' n23 => ?_⟩
    have s23 : Same G22 (L2.upd G22 p11' (.lst (cutV (textsV (r0 :: rest)) (some 1) none))) := Same.new n23
    have l23 : (L2.upd G22 p11' (.lst (cutV (textsV (r0 :: rest)) (some 1) none))) p11' = some (.lst (textsV rest)) := by
      rw [upd_same, show (some (1 : Int)) = some ((1 : Nat) : Int) from rfl, cut_drop]
      rfl
    generalize L2.upd G22 p11' (.lst (cutV (textsV (r0 :: rest)) (some 1) none)) = G23 at s23 l23
    have hrest : rest.length ≤ 7 := by
      rw [List.length_cons] at h8
      omega
    refine ⟨p10, p11', _, _, rfl, rfl, s23 _ _ l22, l23, by rw [texts_len]; exact big_line (by show 1 + _ ≤ 1000000; omega), fun p12 G24 n24 s24 l24 => ?_⟩
    have l24 : G24 p12 = some (.lst (textsV (r0.reverse :: rest))) := l24
    have S24 := (S22.trans s23).trans s24
    have okT : okRules (r0.reverse :: rest) := ⟨h8, fun r hr => by
      rcases List.mem_cons.mp hr with rfl | hr
      · exact hrv
      · exact ok.2 r (List.mem_cons_of_mem _ hr)⟩
    have okV : okRules (r0 :: rest).reverse := ⟨by rw [List.length_reverse]; exact h8, fun r hr => ok.2 r (List.mem_reverse.mp hr)⟩
    -- the loop
    refine ⟨_, rfl, a, _, rfl, SqL.of (S24 _ _ hS), fun p13 n25 => ?_⟩
    have s25 : Same G24 (L2.upd G24 p13 (.lst (textsV (r0 :: rest)).reverse)) := Same.new n25
    have l25 : (L2.upd G24 p13 (.lst (textsV (r0 :: rest)).reverse)) p13 = some (.lst (textsV (r0 :: rest).reverse)) := by
      rw [upd_same]
      unfold textsV
      rw [List.map_reverse, List.map_reverse]
    generalize L2.upd G24 p13 (.lst (textsV (r0 :: rest)).reverse) = G25 at s25 l25
    refine ⟨_, rfl, by show 2 ≤ sizeLine; decide, fun t2 G26 n26 s26 l26 => ⟨t2, rfl, ⟨_, SqT.of l26⟩, ?_⟩⟩
    have S26 := (S24.trans s25).trans s26
    have t26 : Same G19 G26 := ((((s21.trans s22).trans s23).trans s24).trans s25).trans s26
    have p9a : G26 p9 = some (.lst [V.non, .str (strS (r0 :: rest) b), .ref q, .ref a, .ref x3, .ref x4, .ref x8]) := t26 _ _ l19
    have a9 : a ≠ p9 := fresh9 (S18 _ _ hS)
    have p129 : p12 ≠ p9 := fun z => by
      have := ((s21.trans s22).trans s23) _ _ l19
      rw [← z, n24] at this
      cases this
    have p139 : p13 ≠ p9 := fun z => by
      have := (((s21.trans s22).trans s23).trans s24) _ _ l19
      rw [← z, n25] at this
      cases this
    have t29 : t2 ≠ p9 := tup_ne_lst p9a _ _ l26
    refine for_tup (xs := [V.ref p13, V.ref p12]) (fun i σ' G' => ∃ (o9 : Option V) (os : List V), σ' = [some (.ref m), some (.ref a), some (.bl b), some (.ref q), none, some (.str (headS b)), none, some (.ref p9), some (.ref p12), o9] ∧ Kp p9 G26 G' ∧ G' p9 = some (.lst os) ∧ os.length ≤ 7 + i ∧ ∀ v ∈ os, OthV C CS (r0 :: rest) b G' v ∧ v ≠ .ref p9)
      ⟨none, _, rfl, Kp.refl _ _, p9a, Nat.le_refl _, fun v hv => ⟨(oth19 v hv).1.same t26, (oth19 v hv).2⟩⟩ (fun i σ' G' _ ⟨_, _, _, kp, _⟩ => SqT.of (kp _ _ t29 l26)) ?_ ?_
    · rintro i v σ1 G27 hi ⟨o9, os, rfl, kp, hp9, hos, hoth⟩
      have hil : i < 2 := (List.getElem?_eq_some_iff.mp hi).1
      obtain ⟨o, rs', rfl, ho, ok', h1'⟩ : ∃ (o : Addr) (rs' : List (List (List Str))), v = .ref o ∧ (G27 o = some (.lst (textsV rs')) ∧ o ≠ p9) ∧ okRules rs' ∧ 1 ≤ rs'.length := by
        match i, hi with
        | 0, hi =>
          cases hi
          exact ⟨p13, (r0 :: rest).reverse, rfl, ⟨kp _ _ p139 (s26 _ _ l25), p139⟩, okV, by rw [List.length_reverse]; exact h1⟩
        | 1, hi =>
          cases hi
          exact ⟨p12, r0.reverse :: rest, rfl, ⟨kp _ _ p129 (s26 _ _ (s25 _ _ l24)), p129⟩, okT, h1⟩
      have hS27 := kp _ _ a9 (S26 _ _ hS)
      refine ⟨_, rfl, _, rfl, _, _, .lst (SqL.of ho.1) (texts_dp rs'), .lst (SqL.of hS27) (texts_dp _), texts_shaped ok', texts_shaped ok, _, rfl, ?_⟩
      rw [texts_eqv]
      by_cases e : rs'.map ruleText = (r0 :: rest).map ruleText
      · refine iteE' (by rw [decide_eq_true e]; rfl) ?_
        exact ⟨_, os, rfl, kp, hp9, by omega, hoth⟩
      · have hr8 := ok'.1
        refine iteT' (by rw [decide_eq_false e]; rfl) ?_
        refine ⟨_, rfl, .inl ⟨rfl, _, SqL.of hp9⟩, ?_⟩
        refine ⟨_, rfl, _, rfl, o, textsV rs', .bl b, rfl, SqL.of ho.1, by rw [texts_len]; omega, made_right ok' h1' fun x28 G28 n28 s28 sa28 => ?_⟩
        have hp28 := s28 _ _ hp9
        refine ⟨p9, os, .ref x28, rfl, rfl, hp28, big_line' (by omega), ?_⟩
        obtain ⟨dx28, D28, vs28, j28, _⟩ := id sa28
        have x9 : V.ref x28 ≠ V.ref p9 := fun z => by
          rw [V.ref.inj z, hp28] at j28
          cases j28
        refine ⟨_, os ++ [.ref x28], rfl, (kp.trans (Kp.same s28)).trans Kp.self, upd_same, by simp; omega, fun v hv => ?_⟩
        rcases List.mem_append.mp hv with hv | hv
        · exact ⟨((hoth v hv).1.same s28).kp Kp.self hp28 (hoth v hv).2, (hoth v hv).2⟩
        · rw [List.mem_singleton.mp hv]
          exact ⟨OthV.kp (.inr (.inr (.inr (.inr (.inr ⟨x28, rs', b, rfl, sa28, ok', .inl fun z => e (by rw [z])⟩))))) Kp.self hp28 x9, x9⟩
    rintro σ1 G27 ⟨o9, os, rfl, kp, hp9, hos, hoth⟩
    have hos : os.length ≤ 9 := hos
    have sm27 : SameAt C G27 m (r0 :: rest) b := (sm0.same S26).kp kp p9a
    have hS27 := kp _ _ a9 (S26 _ _ hS)
    -- none of them is equal
    refine ⟨_, rfl, p9, rfl, ⟨_, SqL.of hp9⟩, fun D30 hD30 => ?_⟩
    refine lc_list (xs := os) (fun i G' => Same G27 G' ∧ G' D30 = some (.lst [])) ⟨Same.new hD30, upd_same⟩ (fun i G' _ ⟨s, _⟩ => SqL.of (s _ _ hp9)) ?_ ?_
    · rintro i v G31 hi ⟨s31, l31⟩
      have hv := (hoth v (List.mem_of_getElem? hi)).1.same s31
      refine ⟨rfl, ?_⟩
      refine ⟨_, rfl, _, rfl, OthV.rEq M hv (sm27.same s31) ok ⟨_, rfl, iteE' rfl ?_⟩⟩
      exact ⟨_, rfl, _, rfl, OthV.rNe M hv (sm27.same s31) ok ⟨_, rfl, iteE' rfl ⟨s31, l31⟩⟩⟩
    rintro G31 ⟨s31, l31⟩
    refine ⟨by show 0 ≤ sizeLine; decide, fun p32 G32 n32 s32 l32 => ?_⟩
    refine ⟨.list [], .list [], .lst (SqL.of (s32 _ _ l31)) .nil, .lst (SqL.of l32) .nil, rfl, rfl, _, rfl, iteE' rfl ?_⟩
    have s27 := s31.trans s32
    -- the same once more
    refine ⟨_, rfl, _, rfl, a, _, rfl, .inl (SqL.of (s27 _ _ hS27)), fun p33 G33 n33 s33 l33 => ?_⟩
    have t33 := s27.trans s33
    refine ⟨_, rfl, p33, textsV (r0 :: rest), .bl b, rfl, SqL.of l33, by rw [texts_len]; omega, made_right ok h1 fun x34 G34 n34 s34 sa34 => ?_⟩
    have t34 := t33.trans s34
    refine eq_rEq M (sm27.same t34) sa34 ok ⟨_, rfl, iteT ?_⟩
    refine ⟨_, rfl, _, rfl, _, rfl, a, textsV (r0 :: rest), .bl b, rfl, SqL.of (t34 _ _ hS27), by rw [texts_len]; omega, made_right ok h1 fun x35 G35 n35 s35 sa35 => ?_⟩
    refine eq_rNe M (sm27.same (t34.trans s35)) sa35 ok ⟨_, rfl, ?_⟩
    exact k G35 fun c o e => (t34.trans s35) _ _ (kp c o (fresh9 (S18 _ _ e)) (S26 _ _ e))
end
end K08
set_option Elab.async false
set_option linter.all false
set_option maxRecDepth 100000
set_option maxHeartbeats 4000000
/-! def f(a, .., *v, k = d): called with values alone. -/
namespace Qi
open PySem PySem.Spec PyProof.Rows L2 Qh StX
section
variable {CX : CXT} {P : Program} {w : World} {K : PySem.W.Frag} {mg : Str → Option Value} {base : Heap} {k : Nat} {f Dk : Addr} {name qual : Str} {params : Arguments} {body : List Stmt} {scope : Scope} {dV doc pm cdv ct oc : Value} {an od : Option Addr}
  {osl : Array (Option Value)} {N ps : List Str} {sp : Sp}
theorem fn_starD {pv pk : Str} {z : V} {u : Value} (lk : K.lookup f = some ⟨oc, od, .func (PySem.W.fnOf name qual params body scope dV (.ref Dk) doc pm an cdv ct), osl⟩) (hcd : PySem.W.codeIn K cdv qual = true) (S : FnScope N (ps ++ [pk, pv]) scope) (hCX : CXUp CX)
    (hd : PySem.W.nsIn K Dk pk = some (some u)) (rz : RelV z u)
    (hb : ∀ (us rest : List Value), us.length = ps.length → ∃ (β γ : Type) (k1 : Option Value → Sem β) (k2 : β → Sem γ) (k3 : γ → Sem (List (Str × Value))) (a : β), bindArgs (PySem.W.fnOf name qual params body scope dV (.ref Dk) doc pm an cdv ct) ⟨us ++ rest, []⟩ = ((nsGet Dk pk >>= k1) >>= k2) >>= k3 ∧
      k1 (some u) = pure a ∧ (k2 a >>= k3) = (newTuple rest >>= fun t => pure (ps.zip us ++ [(pk, u), (pv, t)])))
    (hbody : ∀ (A : Around) (outer : List Env) (s : Shared) (H : Hp) (vs : List V) (Q : VK) (E : XK), Room k (A.deeper (envOfC qual scope s.heap.objs.size f cdv)) → sp vs H Q E →
      ∃ t, PSs (cxOf CX P w K mg base N qual scope f cdv A outer s H E) body t ∧ t { nx := fun _ H' => Q .non H', rt := Q } (start N vs) H) :
    FnR P w K mg base CX (k + 1) f (fun vs H Q E => ∃ ws rest, vs = ws ++ rest ∧ ws.length = ps.length ∧ rest.length ≤ sizeLine ∧ ∀ p, H p = Option.none → sp (ws ++ [z, V.ref p]) (upd H p (.tup rest)) Q E) := by
  intro A outer s H us vs Q E hr e0 r hsp
  obtain ⟨ws, rest, ev, hl, few, want⟩ := hsp
  subst ev
  obtain ⟨u1, u2, rfl, r1, r2⟩ := vals_split r
  have KX : K.In s.heap := e0.mod.kin.keeps fun b o e => (e0.bs b o e).1
  have free : H s.heap.objs.size = Option.none := e0.hok.fresh (Nat.le_refl _)
  have len1 : u1.length = ps.length := by rw [← r1.length]; exact hl
  have len2 : u2.length ≤ sizeLine := by rw [← r2.length]; exact few
  refine run_bnd (ps := ps ++ [pk, pv]) lk hcd S hr e0 (G := fun xs H2 => ∃ p, H p = Option.none ∧ xs = ws ++ [z, V.ref p] ∧ H2 = upd H p (.tup rest)) (fun A' Ex Q' h => ?_) ?_
  · obtain ⟨β, γ, k1, k2, k3, a, e1, e2, e3⟩ := hb u1 u2 len1
    have l1 : PySem.W.Looks (model P w) s.heap (nsGet Dk pk >>= k1) a := (PySem.W.looks_nsIn KX hd).andThen (PySem.W.Looks.of_pure e2)
    rw [e1, bind_assoc]
    refine wpAny_bind (l1.here ?_)
    rw [e3]
    refine wpAny_bind (wpAny_newTuple (wpAny_pure ?_) len2)
    have new : ObjOk P w (upd H s.heap.objs.size (.tup rest)) (s.heap.push ({ cls := .type "tuple", data := .seq u2.toArray } : Obj)) s.heap.objs.size (.tup rest) := ⟨few, u2, r2, ⟨_, Heap.get?_push_size _ rfl, rfl, _, rfl⟩⟩
    have un := un_laid (fs := frs outer) (s := s) (o := ({ cls := .type "tuple", data := .seq u2.toArray } : Obj)) (u := .tup rest) free
    have got := h _ _ (ws ++ [z, V.ref s.heap.objs.size]) (u1 ++ [u, Value.ref s.heap.objs.size]) (env0_laid e0 new) un rfl (fun e s' => hCX outer s H _ _ E e s' un (fun b o q => Heap.get?_push_of_some _ q) rfl) (r1.append (.cons rz (.cons rfl .nil)))
      (by rw [List.length_append, List.length_append, hl] <;> rfl) ⟨_, free, rfl, rfl⟩
    rw [List.zip_append len1.symm] at got
    exact got
  · rintro s2 H2 xs ⟨p, hp, rfl, rfl⟩ hr'
    exact hbody A outer s2 _ _ Q E hr' (want p hp)
end
end Qi
set_option Elab.async false
set_option linter.all false
set_option maxRecDepth 100000
set_option maxHeartbeats 4000000
namespace K08
open PySem PySem.Spec PyProof.Rows L2 TL Qh Qi ClX
/-- what a call of __init__ without keep asks -/
def spInitD (K : PySem.W.Frag) (C CE : Addr) : Sp := fun vs H Q E => ∃ ws rest, vs = ws ++ rest ∧ ws.length = 1 ∧ rest.length ≤ sizeLine ∧ ∀ p, H p = Option.none → spInit K C CE (ws ++ [V.bl true, V.ref p]) (L2.upd H p (.tup rest)) Q E
section
variable {P : Program} {w : World} {K : PySem.W.Frag} {mg : Str → Option Value} {base : Heap}
theorem ok_initD {C CE f Dk : Addr} {oc doc pm cdv ct : Value} {od an : Option Addr} {osl : Array (Option Value)}
    (lk : K.lookup f = some ⟨oc, od, .func (PySem.W.fnOf "__init__" "Same.__init__" (defArgs sInit) (defBody sInit) (defScope sInit) .none (.ref Dk) doc pm an cdv ct), osl⟩) (hcd : PySem.W.codeIn K cdv "Same.__init__" = true)
    (hd : PySem.W.nsIn K Dk "keep" = some (some (.bool true))) (B : Blt mg) (T : SameC K mg C) (TE : ErrN P w K mg base "InvalidStep" ["reason", "index"] CE) (F_rule_of : Ok P w K mg base "rule_of" (defArgs sRuleOf) ["value"] 4 (spRuleOf K)) :
    FnR P w K mg base (L2.CX P w) 5 f (spInitD K C CE) :=
  fn_starD (ps := ["self"]) (pv := "rules") (pk := "keep") (z := .bl true) (u := .bool true) lk hcd scInit StX.cxUp hd rfl (fun us rest hl => match us, rest, hl with
    | [_], [], _ => ⟨_, _, _, _, _, _, rfl, rfl, rfl⟩
    | [_], _ :: _, _ => ⟨_, _, _, _, _, _, rfl, rfl, rfl⟩) fun A out t G vs Q E hr h => body_init B T TE F_rule_of cdv A out t G vs Q E hr h
theorem Made.wantD {C CE : Addr} {xs : List V} {H : Hp} {Q : VK} {E : XK} (m : Made K C CE xs (.bl true) H Q E) (x dx : Addr) (hx : H x = none) (hdx : H dx = none) (ne : dx ≠ x) :
    spInitD K C CE (V.ref x :: xs) (L2.upd (L2.upd H dx (.own x)) x (.ins C dx [])) (fun v H2 => v = .non ∧ Q (.ref x) H2) E := by
  obtain ⟨ws, rest, z, e, hl, few, h⟩ := m.want x dx hx hdx ne
  obtain ⟨e1, e2⟩ := List.append_inj' e rfl
  obtain rfl : V.bl true = z := by simpa using e2
  exact ⟨ws, rest, e1, hl, few, h⟩
end
end K08
set_option Elab.async false
set_option linter.all false
set_option maxRecDepth 100000
set_option maxHeartbeats 4000000
/-! Facts about own error classes, by one bit each. -/
namespace Qh
open PySem PySem.Spec PyProof.Rows L2
def oexB (K : PySem.W.Frag) (C : Addr) : Bool := match K.lookup C with
  | some ⟨.type "type", _, .cls cd, sl⟩ => (match cd.mro, sl.toList with
    | .ref C' :: bm, [_, _, _, _, some (.builtin n), _] => ((C' == C && n == "ValueError.__new__") && (!cd.hasDel && cd.hasDict)) && PySem.HandSPX.refsVE bm
    | _, _ => false)
  | _ => false
def oex2B (K : PySem.W.Frag) (C : Addr) : Bool := decide (PySem.W.findIn K (.ref C) "__setattr__" = some (some (.builtin "object.__setattr__"))) && (decide (PySem.W.typeIn K (.ref C) = some (.type "type")) && PySem.W.keepIn K (.ref C))
def ecB (K : PySem.W.Frag) (C : Addr) : Bool := decide (PySem.W.findIn K (.ref C) "__class__" = some (some (.builtin "object.__class__"))) && (decide (PySem.W.specialIn K (.builtin "object.__class__") "__get__" = some (some (.builtin "getset_descriptor.__get__"))) && (decide (PySem.W.takesIn K (.builtin "object.__class__") = some true) && decide (PySem.W.mroIn K C (.type "object") = some true)))
theorem oexB_ok {K : PySem.W.Frag} {C : Addr} (q : oexB K C = true) : ∃ nm q N bs bm sn sub ab col dd k0 k1 k2 k3 k5, K.lookup C = some (excClassObj nm q C N bs bm true sn sub ab col dd k0 k1 k2 k3 k5 "ValueError.__new__") ∧ PySem.HandSPX.refsVE bm = true := by
  unfold oexB at q
  split at q
  · rename_i dd cd sl ho
    split at q
    · rename_i C' bm k0 k1 k2 k3 n k5 hm hs
      simp only [Bool.and_eq_true, beq_iff_eq, Bool.not_eq_true'] at q
      obtain ⟨⟨⟨rfl, rfl⟩, hdel, hdct⟩, ht⟩ := q
      obtain ⟨nm, bs, mro, ns, qn, hd, sn, sub, ab, col, del⟩ := cd
      dsimp only at hm hdel hdct
      subst hm hdel hdct
      have hsl : sl = #[k0, k1, k2, k3, some (.builtin "ValueError.__new__"), k5] := by
        obtain ⟨l⟩ := sl
        simp only at hs
        rw [hs]
      subst hsl
      exact ⟨nm, qn, ns, bs, bm, sn, sub, ab, col, dd, k0, k1, k2, k3, k5, ho, ht⟩
    · cases q
  · cases q
theorem errC_of {K : PySem.W.Frag} {mg : Str → Option Value} {x : Str} {C : Addr} (g : mg x = some (.ref C)) (h1 : oexB K C = true) (h2 : oex2B K C = true) (h3 : xfB K C = true) (h4 : ecB K C = true) : ErrC K mg x C := by
  obtain ⟨a1, a2⟩ := Bool.and_eq_true_iff.mp h2
  obtain ⟨a2, a3⟩ := Bool.and_eq_true_iff.mp a2
  obtain ⟨b1, b2⟩ := Bool.and_eq_true_iff.mp h4
  obtain ⟨b2, b3⟩ := Bool.and_eq_true_iff.mp b2
  obtain ⟨b3, b4⟩ := Bool.and_eq_true_iff.mp b3
  have X := xfB_ok h3
  exact ⟨g, ⟨oexB_ok h1, of_decide_eq_true a1, X.exC, of_decide_eq_true a2, a3⟩, X, ⟨X.ga, X.gg, X.exC, X.hdC, of_decide_eq_true b1, of_decide_eq_true b2, of_decide_eq_true b3, of_decide_eq_true b4⟩⟩
/-- the module's names that are not bound by it -/
def freeB (K : PySem.W.Frag) (xs : List Str) : Bool := xs.all fun x => decide (PySem.W.nsIn K mainGlobals x = some none)
theorem freeB_ok {K : PySem.W.Frag} {h : Heap} {mg : Str → Option Value} (X : K.In h) (G : h.Ns mainGlobals mg) {xs : List Str} (c : freeB K xs = true) {x : Str} (hx : x ∈ xs) : mg x = none :=
  PySem.W.mg_none_of X G (of_decide_eq_true (List.all_eq_true.mp c x hx))
abbrev bltNames : List Str := ["len", "int", "abs", "list", "tuple", "range", "repr", "all", "any", "isinstance", "str", "bool", "dict", "set", "sorted", "enumerate", "zip", "max", "sum", "min", "reversed"]
theorem blt_of {K : PySem.W.Frag} {h : Heap} {mg : Str → Option Value} (X : K.In h) (G : h.Ns mainGlobals mg) (c : freeB K bltNames = true) : Blt mg := by
  have f := fun {x : Str} (hx : x ∈ bltNames) => freeB_ok X G c hx
  exact ⟨f (by decide +kernel), f (by decide +kernel), f (by decide +kernel), f (by decide +kernel), f (by decide +kernel), f (by decide +kernel), f (by decide +kernel), f (by decide +kernel), f (by decide +kernel), f (by decide +kernel), f (by decide +kernel), f (by decide +kernel), f (by decide +kernel), f (by decide +kernel), f (by decide +kernel), f (by decide +kernel), f (by decide +kernel), f (by decide +kernel), f (by decide +kernel), f (by decide +kernel), f (by decide +kernel)⟩
end Qh
set_option Elab.async false
set_option linter.all false
set_option maxRecDepth 100000
set_option maxHeartbeats 16000000
namespace K08
open PySem PySem.Spec PyProof.Rows L2 TL Qh Qi Qm Qp ClX
abbrev sLaw : Stmt := top 34
abbrev lawN : List Str := ["_law_script", "_law_pen_here", "_law_turn", "_law_many_here", "_law_some", "_law_k", "_law_again", "_law_held", "_law_made_here", "_law_due_here"]
theorem right_list : ∀ xs : List V, (∀ o ∈ xs.map ruleV, o ≠ none) → ∃ rs, xs = textsV rs ∧ ∀ r ∈ rs, rightR r
  | [], _ => ⟨[], rfl, fun r h => nomatch h⟩
  | v :: xs, h => by
    obtain ⟨rs, e, hr⟩ := right_list xs fun o ho => h o (List.mem_cons_of_mem _ ho)
    have h0 := h (ruleV v) List.mem_cons_self
    cases e0 : ruleV v with
    | none => exact absurd e0 h0
    | some r =>
      cases v with
      | str x =>
        have e0 : ruleS x = some r := e0
        refine ⟨r :: rs, ?_, fun r' hr' => ?_⟩
        · show _ = V.str (ruleText r) :: textsV rs
          rw [rule_text_of e0, e]
        · rcases List.mem_cons.mp hr' with rfl | hr'
          · exact right_of e0
          · exact hr r' hr'
      | _ => cases e0
theorem due_right {xs : List V} {kv : V} (h : dueX xs kv = none) : ∃ rs b, xs = textsV rs ∧ okRules rs ∧ 1 ≤ rs.length ∧ kv = .bl b := by
  unfold dueX at h
  split at h
  · rename_i c
    obtain ⟨c1, c2⟩ := Bool.and_eq_true_iff.mp c
    have c1 := of_decide_eq_true c1
    have c2 := of_decide_eq_true c2
    split at h
    · cases h
    · rename_i hf
      have hf := List.findIdx?_eq_none_iff.mp hf
      obtain ⟨rs, e, hr⟩ := right_list xs fun o ho z => by
        have := hf o ho
        rw [z] at this
        cases this
      subst e
      rw [texts_len] at c1 c2
      cases hb : isBl kv with
      | false =>
        rw [hb] at h
        cases h
      | true =>
        obtain ⟨b, hb⟩ := isBl_yes hb
        exact ⟨rs, b, rfl, ⟨by omega, hr⟩, by omega, hb⟩
  · cases h
def ixD : Option Nat → PyData
  | none => .none
  | some i => .int (i : Int)
def errD (reason : Str) (i : Option Nat) : PyData := .tuple [.str reason, ixD i]
def shownOk (d : PyData) : Bool := (d.showable && !d.hasDict) && (decide (d.depth ≤ 40) && decide (d.shown.length ≤ 1000))
theorem shown_ok {d : PyData} (h : shownOk d = true) : d.showable = true ∧ d.hasDict = false ∧ d.depth ≤ 40 ∧ d.shown.length ≤ sizeLine := by
  unfold shownOk at h
  obtain ⟨h1, h2⟩ := Bool.and_eq_true_iff.mp h
  obtain ⟨h3, h4⟩ := Bool.and_eq_true_iff.mp h1
  obtain ⟨h5, h6⟩ := Bool.and_eq_true_iff.mp h2
  exact ⟨h3, by simpa using h4, of_decide_eq_true h5, big_line (by have := of_decide_eq_true h6; omega)⟩
theorem due_data {xs : List V} {kv : V} {reason : Str} {i : Option Nat} (hn : xs.length ≤ 9) (h : dueX xs kv = some (reason, i)) : shownOk (errD reason i) = true := by
  unfold dueX at h
  split at h
  · split at h
    · rename_i k hk
      cases h
      have hl := (List.findIdx?_eq_some_iff_getElem.mp hk).1
      rw [List.length_map] at hl
      have all : ∀ k < 9, shownOk (errD (Str.ofString "rule") (some k)) = true := by decide +kernel
      exact all k (by omega)
    · split at h
      · cases h
      · cases h
        decide +kernel
  · cases h
    decide +kernel
theorem err_dp {K : PySem.W.Frag} {G : Hp} {reason : Str} {i : Option Nat} {q : Addr} (h : G q = some (.tup [.str reason, ixV i])) : Dp K G (.ref q) (errD reason i) := by
  refine .tup (SqT.of h) (.cons (.str _) (.cons ?_ .nil))
  cases i with
  | none => exact .non
  | some k => exact .int _
/-- a value for keep -/
def HeldV (G : Hp) (p : Addr) (v : V) : Prop := (∃ b, v = .bl b) ∨ (∃ i, v = .int i) ∨ v = .non ∨ (∃ x, v = .str x) ∨ ∃ a o, v = .ref a ∧ a ≠ p ∧ G a = some o ∧ ((∃ xs, o = .lst xs) ∨ ∃ xs, o = .tup xs)
theorem HeldV.kp {G G' : Hp} {p : Addr} {v : V} (h : HeldV G p v) (k : Kp p G G') : HeldV G' p v := by
  rcases h with h | h | h | h | ⟨a, o, e, n, ha, h⟩
  · exact .inl h
  · exact .inr (.inl h)
  · exact .inr (.inr (.inl h))
  · exact .inr (.inr (.inr (.inl h)))
  · exact .inr (.inr (.inr (.inr ⟨a, o, e, n, k a o n ha, h⟩)))
theorem HeldV.keep {K : PySem.W.Frag} {G : Hp} {p : Addr} {v : V} (h : HeldV G p v) : KeepV K G v := by
  rcases h with h | ⟨i, rfl⟩ | rfl | ⟨x, rfl⟩ | ⟨a, o, rfl, n, ha, ⟨xs, rfl⟩ | ⟨xs, rfl⟩⟩
  · exact .inl h
  · exact .inr ⟨(fun b e => nomatch e), _, .base (.int i), kit_ty (by decide +kernel)⟩
  · exact .inr ⟨(fun b e => nomatch e), _, .base .non, kit_ty (by decide +kernel)⟩
  · exact .inr ⟨(fun b e => nomatch e), _, .base (.str x), kit_ty (by decide +kernel)⟩
  · exact .inr ⟨(fun b e => nomatch e), _, .base (.lst ha), kit_ty (by decide +kernel)⟩
  · exact .inr ⟨(fun b e => nomatch e), _, .base (.tup ha), kit_ty (by decide +kernel)⟩
def spLaw (K : PySem.W.Frag) : Sp := fun vs G Q _ => ∃ (a : Addr) (ns : List Int), vs = [.ref a] ∧ SqL K G a (ns.map V.int) ∧ ∀ G', Q (.bl true) G'
theorem ixN_nat' {n j : Nat} (hj : j < n) : ixN n (j : Int) = some j := by
  unfold ixN
  rw [if_pos (by omega), if_pos (by omega)]
  simp
theorem bt_ve : bootBuiltins "ValueError" = some (.type "ValueError") := by decide +kernel
section
variable {P : Program} {w : World} {K : PySem.W.Frag} {mg : Str → Option Value} {base : Heap}
theorem scLaw : FnScope lawN ["_law_script"] (defScope sLaw) := ⟨rfl, rfl, rfl, by decide +kernel, rfl, by decide +kernel, by decide +kernel⟩
theorem ok_law {C CS CE fI fl : Addr} {fdl : FuncData} (D : Fun K "law" "law" sLaw fl fdl) (B : Blt mg) (nVE : mg "ValueError" = none) (M : SameM P w K mg base C CS) (TE : ErrN P w K mg base "InvalidStep" ["reason", "index"] CE)
    (kEE : PySem.W.kitOne K (.ref CE) (.ref CE) = some true) (kEV : PySem.W.kitOne K (.ref CE) (.type "ValueError") = some true) (MK : Mk K C fI) (FD : FnR P w K mg base (L2.CX P w) 5 fI (spInitD K C CE))
    (F__law_pen : Ok P w K mg base "_law_pen" (defArgs sPen) ["_law_script"] 1 (spPen K))
    (F__law_draw : Ok P w K mg base "_law_draw" (defArgs sDraw) ["_law_pen_here", "_law_many_here"] 1 spDraw)
    (F__law_pick : Ok P w K mg base "_law_pick" (defArgs sPick) ["_law_pen_here", "_law_some"] 2 (spPick K))
    (F__law_sides : Ok P w K mg base "_law_sides" (defArgs sSides) ["_law_pen_here"] 3 spSides) (F__law_told : Ok P w K mg base "_law_told" (defArgs sTold) ["_law_sides_here"] 1 spTold)
    (F__law_odd : Ok P w K mg base "_law_odd" (defArgs sOdd) ["_law_pen_here"] 4 (spOdd K))
    (F__law_made : Ok P w K mg base "_law_made" (defArgs sMade) ["_law_some", "_law_held"] 8 (spMade K C CE))
    (F__law_due : Ok P w K mg base "_law_due" (defArgs sDue) ["_law_some", "_law_held"] 3 (spDue K))
    (F__law_tells : OkG P w K mg base "_law_tells" (defArgs sTells) ["_law_made_here", "_law_some", "_law_held"] 9 (spTells C)) :
    FnG P w K mg base (L2.CX P w) 10 fl fdl ["_law_script"] (spLaw K) := by
  refine Qh.okG D scLaw (fun vs G Q E h => ?_) (fun cdv A out t G vs Q E gu hr h => ?_)
  · obtain ⟨a, ns, rfl, _⟩ := h
    rfl
  · obtain ⟨a, ns, rfl, hS, k⟩ := h
    have hu64 := hr.units
    have hgu : (A.deeper (envOfC (Str.ofString "law") (defScope sLaw) t.heap.objs.size fl cdv)).guards = some [] := gu
    refine ⟨_, (pss_cons (ps_set (i := 1) scLaw.nd rfl (by first | exact Or.inl rfl | exact Or.inr rfl) (pe_own F__law_pen (hr.mono (by decide)) takes0 (pa_cons (pv 0) pa_nil)))
    (pss_cons (ps_for (passes_of rfl) rfl (pi_range1 (by rfl) B.n_range (pa_cons pe_int pa_nil)) (pg_name (i := 2) scLaw.nd rfl (by first | exact Or.inl rfl | exact Or.inr rfl))
      (pss_cons (ps_set (i := 3) scLaw.nd rfl (by first | exact Or.inl rfl | exact Or.inr rfl) (pe_ix ix_list (pn_lst (pa_cons (pe_own F__law_draw (hr.mono (by decide)) takes0 (pa_cons (pv 1) (pa_cons pe_int pa_nil))) (pa_cons (pe_op op_add pe_int (pe_own F__law_draw (hr.mono (by decide)) takes0 (pa_cons (pv 1) (pa_cons pe_int pa_nil)))) pa_nil))) (pe_own F__law_draw (hr.mono (by decide)) takes0 (pa_cons (pv 1) (pa_cons pe_int pa_nil))) (fun _ _ => rfl)))
    (pss_cons (ps_setLc (i := 4) (own := [("_law_k", 5)]) (tt := tYes) rfl scLaw.nd rfl rfl (sw_true rfl rfl rfl (by decide +kernel)) (pi_range1 (by rfl) B.n_range (pa_cons (pv 3) pa_nil)) (blkOk_by (N := lawN) (sc := defScope sLaw) (by decide +kernel)) (fun _ _ _ _ _ => pg_name (i := 5) scLaw.nd rfl (by first | exact Or.inl rfl | exact Or.inr rfl)) (fun _ _ _ _ _ => pts_nil) (fun _ _ _ _ _ => (pe_own F__law_told (hr.mono (by decide)) takes0 (pa_cons (pe_own F__law_sides (hr.mono (by decide)) takes0 (pa_cons (pv 1) pa_nil)) pa_nil))))
    (pss_cons (ps_for (passes_of rfl) rfl (pi_range1 (by rfl) B.n_range (pa_cons (pe_op op_mul (pe_ix ix_list (pn_lst (pa_cons pe_int (pa_cons pe_int (pa_cons pe_int (pa_cons pe_int pa_nil))))) (pe_own F__law_draw (hr.mono (by decide)) takes0 (pa_cons (pv 1) (pa_cons pe_int pa_nil))) (fun _ _ => rfl)) (pe_callTy call_int1 (by rfl) B.n_int bt_int (pa_cons (pe_cmpR (op_neD hu64) (pv 4) (pn_lst pa_nil) (nomark _)) pa_nil))) pa_nil)) (pg_name (i := 6) scLaw.nd rfl (by first | exact Or.inl rfl | exact Or.inr rfl))
      (pss_one (ps_asg (pe_own F__law_odd (hr.mono (by decide)) takes0 (pa_cons (pv 1) pa_nil)) (pg_sub (pv 4) (pe_own F__law_draw (hr.mono (by decide)) takes0 (pa_cons (pv 1) (pa_cons (pe_callB call_len (by rfl) B.n_len bt_len (pa_cons (pv 4) pa_nil)) pa_nil))) set_list))))
    (pss_cons (ps_set (i := 7) scLaw.nd rfl (by first | exact Or.inl rfl | exact Or.inr rfl) (pe_ix ix_list (pn_lst (pa_cons pe_bl (pa_cons pe_bl (pa_cons pe_bl (pa_cons pe_bl (pa_cons (pe_own F__law_pick (hr.mono (by decide)) takes0 (pa_cons (pv 1) (pa_cons (pn_lst (pa_cons pe_int (pa_cons pe_int (pa_cons pe_non (pa_cons pe_str (pa_cons (pn_lst pa_nil) (pa_cons (pn_tup pa_nil) (pa_cons pe_str pa_nil)))))))) pa_nil))) pa_nil)))))) (pe_own F__law_draw (hr.mono (by decide)) takes0 (pa_cons (pv 1) (pa_cons pe_int pa_nil))) (fun _ _ => rfl)))
    (pss_cons (ps_par rfl scLaw.nd (i := 8) (j := 9) rfl rfl (by decide) rfl rfl (pa_cons (pe_own F__law_made (hr.mono (by decide)) takes0 (pa_cons (pv 4) (pa_cons (pv 7) pa_nil))) (pa_cons (pe_own F__law_due (hr.mono (by decide)) takes0 (pa_cons (pv 4) (pa_cons (pv 7) pa_nil))) pa_nil)) (by rfl))
    (pss_one (ps_if (pt_cmpR op_isN (pv 9) pe_non (nomark _)) (pss_one (ps_if (PW.pt (pw_or (pt_not (pt_val (pe_callB call_isi (by rfl) B.n_isinstance bt_isinstance (pa_cons (pv 8) (pa_cons (pe_glob (v := .ref C) rfl M.T.g rfl) pa_nil))))) (pw_or1 (pt_not (pt_val (pe_ownG F__law_tells hgu (hr.mono (by decide)) (pa_cons (pv 8) (pa_cons (pv 4) (pa_cons (pv 7) pa_nil))))))))) (pss_one (ps_ret pe_bl)) pss_nil))
      (pss_one (ps_if (PW.pt (pw_or (pt_not (pt_val (pe_callB call_errIs (by rfl) B.n_isinstance bt_isinstance (pa_cons (pv 8) (pa_cons (pe_glob (v := .ref CE) rfl TE.c.g rfl) pa_nil))))) (pw_or1 (pt_cmpR op_ne (pe_callB (call_repr hgu hu64) (by rfl) B.n_repr bt_repr (pa_cons (pn_tup (pa_cons (pe_errF (pv 8)) (pa_cons (pe_errF (pv 8)) pa_nil))) pa_nil)) (pe_callB (call_repr hgu hu64) (by rfl) B.n_repr bt_repr (pa_cons (pv 9) pa_nil)) (nomark _))))) (pss_one (ps_ret pe_bl))
        (pss_one (ps_if (pt_not (pt_val (pe_callB call_errIs (by rfl) B.n_isinstance bt_isinstance (pa_cons (pv 8) (pa_cons (pe_bltn (v := .ty "ValueError") (by rfl) nVE bt_ve rfl) pa_nil))))) (pss_one (ps_ret pe_bl)) pss_nil))))))))))))
    (pss_one (ps_ret (pe_and (pe_cmpR op_eq (pe_cval (pe_glob (v := .ref C) rfl M.T.g rfl)) pe_int (nomark _)) (pe_and (pe_cmpR op_isBl (pe_fld (pe_makeS MK FD (hr.mono (by decide)) takes0 M.T.g (pa_cons pe_str pa_nil)) rfl) pe_bl (nomark _)) (pe_one (pe_cmpR (op_eqD hu64) (pe_fld (pe_makeS MK FD (hr.mono (by decide)) takes0 M.T.g (pa_cons pe_str pa_nil)) rfl) (pn_tup (pa_cons (pn_tup (pa_cons (pn_tup (pa_cons pe_str pa_nil)) (pa_cons (pn_tup (pa_cons pe_str pa_nil)) pa_nil))) pa_nil)) (nomark _))))))))), ?_⟩
    have hT := M.T
    have sz : ∀ {n : Nat}, n ≤ 1000 → n ≤ sizeLine := fun h => big_line (by omega)
    refine ⟨_, rfl, a, ns, rfl, hS, fun p l G1 hp1 s1 P1 => ?_⟩
    refine ⟨8, rfl, by decide, by decide, ?_⟩
    refine for_range (fun i σ' G' => ∃ (o2 o3 o4 o6 o7 o8 o9 : Option V), σ' = [some (.ref a), some (.ref p), o2, o3, o4, none, o6, o7, o8, o9] ∧ Pen G' p l (400 * i)) ⟨_, _, _, _, _, _, _, rfl, P1.mono (by omega)⟩ ?_ ?_
    · rintro i σ1 G2 hi ⟨o2, o3, o4, o6, o7, o8, o9, rfl, P2⟩
      have hi : i < 8 := hi
      -- how many
      refine ⟨_, rfl, p, l, _, 10, rfl, P2, by omega, by decide, by decide, fun d1 G3 d10 d11 kp3 P3 => ?_⟩
      refine ⟨_, rfl, p, l, _, 4, rfl, P3, by omega, by decide, by decide, fun d2 G4 d20 d21 kp4 P4 => ?_⟩
      refine ⟨_, _, rfl, rfl, by show 2 ≤ sizeLine; decide, fun q1 G5 h5 s5 a5 => ?_⟩
      have q1p := P4.ne h5
      refine ⟨_, rfl, p, l, _, 2, rfl, P4.same s5, by omega, by decide, by decide, fun d3 G6 d30 d31 kp6 P6 => ?_⟩
      obtain ⟨v, hv, _, hm⟩ := at_lt (xs := [V.int d1, .int (1 + d2)]) d3 d30 d31
      obtain ⟨n, rfl, n0, n9⟩ : ∃ n, v = V.int n ∧ 0 ≤ n ∧ n ≤ 9 := by
        simp only [List.mem_cons, List.not_mem_nil, or_false] at hm
        rcases hm with rfl | rfl
        · exact ⟨_, rfl, by omega, by omega⟩
        · exact ⟨_, rfl, by omega, by omega⟩
      refine ⟨q1, _, d3, _, rfl, rfl, SqL.of (kp6 q1 _ q1p a5), hv, ?_⟩
      -- the texts
      refine ⟨_, rfl, n, rfl, by omega, by omega, fun D1 hD => ?_⟩
      have Dp := P6.ne hD
      have Dl := P6.nel hD
      refine lc_range (fun j G' => ∃ ts : List Str, G' D1 = some (.lst (ts.map V.str)) ∧ ts.length = j ∧ (∀ x ∈ ts, okS x) ∧ Pen G' p l (400 * i + 3 + 24 * j)) ⟨[], upd_same, rfl, all_nil, (P6.new hD).mono (by omega)⟩ ?_ ?_
      · rintro j G7 hj ⟨ts, hl, hn, hok, P7⟩
        have hj9 : j < 9 := by omega
        refine ⟨rfl, ?_⟩
        refine ⟨_, rfl, p, l, _, rfl, P7, by omega, fun q r G8 hg h2 h4 hL kp8 P8 => ?_⟩
        have tok := text_ok (fun ts ht => good_ok (hg ts ht)) (show r.length ≤ 5 by omega)
        refine ⟨q, r, rfl, hL G8 (Kp.refl _ _), by have := tok.2; omega, fun G9 s9 => ?_⟩
        have hl9 := s9 _ _ (kp8 D1 _ Dp hl)
        refine ⟨_, hl9, by rw [List.length_map]; exact big_line' (by omega), ts ++ [ruleText r], ?_, by simp [hn], all_two hok (all_cons tok.1 all_nil), ((P8.same s9).upd Dp Dl).mono (by omega)⟩
        rw [upd_same, List.map_append]
        rfl
      rintro G7 ⟨ts, hl, hn, hok, P7⟩
      have hts : ts.length ≤ 9 := by omega
      have htx : ∀ x ∈ ts, txt x = true := fun x hx => sg_txt (hok x hx).2
      -- some of them otherwise
      refine ⟨by show 4 ≤ sizeLine; decide, fun q2 G8 h8 s8 a8 => ?_⟩
      have q2p := P7.ne h8
      refine ⟨_, rfl, p, l, _, 4, rfl, P7.same s8, by omega, by decide, by decide, fun d4 G9 d40 d41 kp9 P9 => ?_⟩
      obtain ⟨v4, hv4, _, hm4⟩ := at_lt (xs := [V.int 0, .int 0, .int 1, .int 2]) d4 d40 d41
      obtain ⟨n4, rfl, n40, n42⟩ : ∃ n, v4 = V.int n ∧ 0 ≤ n ∧ n ≤ 2 := by
        simp only [List.mem_cons, List.not_mem_nil, or_false] at hm4
        rcases hm4 with rfl | rfl | rfl | rfl
        · exact ⟨_, rfl, by omega, by omega⟩
        · exact ⟨_, rfl, by omega, by omega⟩
        · exact ⟨_, rfl, by omega, by omega⟩
        · exact ⟨_, rfl, by omega, by omega⟩
      refine ⟨q2, _, d4, _, rfl, rfl, SqL.of (kp9 q2 _ q2p a8), hv4, ?_⟩
      have hl9 := kp9 D1 _ Dp (s8 _ _ hl)
      refine ⟨_, rfl, by show 0 ≤ sizeLine; decide, fun q3 G10 h10 s10 a10 => ?_⟩
      refine ⟨_, .list [], .lst (SqL.of (s10 _ _ hl9)) (dp_strs _), .lst (SqL.of a10) .nil, shaped_strsL _ htx, rfl, ?_⟩
      refine .inr ⟨_, rfl, ?_⟩
      have hl10 := s10 _ _ hl9
      have P10 := P9.same s10
      rw [eqv_nil_r]
      obtain ⟨tm, htm, tm2, tm0⟩ : ∃ tm : Int, (n4 * (if (!decide (ts.map PyData.str = [])) = true then (1 : Int) else 0)) = tm ∧ (0 ≤ tm ∧ tm ≤ 2) ∧ (ts = [] → tm = 0) := by
        refine ⟨_, rfl, ?_, fun e => ?_⟩
        · split
          · omega
          · omega
        · subst e
          show n4 * (0 : Int) = 0
          omega
      refine ⟨_, _, rfl, rfl, .inl ⟨by omega, by omega⟩, ?_⟩
      refine ⟨tm, by rw [← htm], by omega, by omega, ?_⟩
      refine for_range (fun j σ' G' => ∃ (o6 : Option V) (xs : List V), σ' = [some (.ref a), some (.ref p), some (.int (0 + i)), some (.int n), some (.ref D1), none, o6, o7, o8, o9] ∧ G' D1 = some (.lst xs) ∧ xs.length = ts.length ∧ (∀ x ∈ xs, OddV G' p x ∧ x ≠ .ref D1) ∧ Pen G' p l (400 * i + 4 + 216 + 26 * j))
        ⟨o6, _, rfl, hl10, by rw [List.length_map], fun x hx => ?_, P10.mono (by omega)⟩ ?_ ?_
      · obtain ⟨y, hy, rfl⟩ := List.mem_map.mp hx
        exact ⟨.str (hok y hy), fun e => nomatch e⟩
      · rintro j σ2 G11 hj ⟨o6', xs, rfl, hx11, hxn, hodd, P11⟩
        have hj2 : j < 2 := by omega
        have ht1 : 1 ≤ ts.length := by
          cases ts with
          | nil =>
            have := tm0 rfl
            omega
          | cons _ _ => simp
        refine ⟨_, rfl, p, l, _, rfl, P11, by omega, fun v G12 ov nv kp12 P12 => ?_⟩
        have hx12 := kp12 D1 _ Dp hx11
        refine ⟨_, rfl, _, rfl, _, rfl, .ref D1, _, rfl, .inl ⟨_, SqL.of hx12, rfl⟩, ?_⟩
        refine ⟨p, l, _, (xs.length : Int), rfl, P12, by omega, by omega, by omega, fun d G13 d0 d1' kp13 P13 => ?_⟩
        have hx13 := kp13 D1 _ Dp hx12
        have hd : (d.toNat : Int) = d := Int.toNat_of_nonneg d0
        refine ⟨D1, xs, d, d.toNat, rfl, rfl, hx13, by rw [← hd]; exact ixN_nat' (by omega), ?_⟩
        refine ⟨_, _, rfl, upd_same, by rw [List.length_set]; exact hxn, fun x hx => ?_, ((P13.upd Dp Dl).mono (by omega))⟩
        have put : ∀ {y : V}, OddV G13 p y → y ≠ .ref D1 → OddV (L2.upd G13 D1 (.lst (xs.set d.toNat v))) p y := fun {y} hy ny => by
          rcases hy with h | h | h | h | ⟨b, o, rfl, nb, hb, h⟩
          · exact .inl h
          · exact .inr (.inl h)
          · exact .inr (.inr (.inl h))
          · exact .inr (.inr (.inr (.inl h)))
          · exact .inr (.inr (.inr (.inr ⟨b, o, rfl, nb, by rw [upd_ne fun z => ny (by rw [z])]; exact hb, h⟩)))
        have vD : v ≠ .ref D1 := fun e => by
          have := nv D1 e
          rw [hx11] at this
          cases this
        rcases List.mem_or_eq_of_mem_set hx with hx | rfl
        · exact ⟨put ((hodd x hx).1.kp (kp12.trans kp13)) (hodd x hx).2, (hodd x hx).2⟩
        · exact ⟨put (ov.kp kp13) vD, vD⟩
      rintro σ2 G11 ⟨o6', xs, rfl, hx11, hxn, hodd, P11⟩
      have hx9 : xs.length ≤ 9 := by omega
      -- the value for keep
      refine ⟨_, rfl, by show 0 ≤ sizeLine; decide, fun q4 G12 h12 s12 a12 => ?_⟩
      refine ⟨by show 0 ≤ sizeLine; decide, fun q5 G13 h13 s13 a13 => ?_⟩
      refine ⟨by show 7 ≤ sizeLine; decide, fun q6 G14 h14 s14 a14 => ?_⟩
      have P12 := P11.same s12
      have P13 := P12.same s13
      have P14 := P13.same s14
      refine ⟨p, l, q6, _, _, rfl, P14, by omega, P13.ne h14, SqL.of a14, by show 0 < 7; decide, by show 7 ≤ 1000000; decide, fun kv1 G15 hkv1 kp15 P15 => ?_⟩
      have hv1 : HeldV G15 p kv1 := by
        refine HeldV.kp (G := G14) ?_ kp15
        simp only [List.mem_cons, List.not_mem_nil, or_false] at hkv1
        rcases hkv1 with rfl | rfl | rfl | rfl | rfl | rfl | rfl
        · exact .inr (.inl ⟨_, rfl⟩)
        · exact .inr (.inl ⟨_, rfl⟩)
        · exact .inr (.inr (.inl rfl))
        · exact .inr (.inr (.inr (.inl ⟨_, rfl⟩)))
        · exact .inr (.inr (.inr (.inr ⟨q4, _, rfl, P11.ne h12, s14 _ _ (s13 _ _ a12), .inl ⟨_, rfl⟩⟩)))
        · exact .inr (.inr (.inr (.inr ⟨q5, _, rfl, P12.ne h13, s14 _ _ a13, .inr ⟨_, rfl⟩⟩)))
        · exact .inr (.inr (.inr (.inl ⟨_, rfl⟩)))
      refine ⟨by show 5 ≤ sizeLine; decide, fun q7 G16 h16 s16 a16 => ?_⟩
      have q7p := P15.ne h16
      refine ⟨_, rfl, p, l, _, 5, rfl, P15.same s16, by omega, by decide, by decide, fun d5 G17 d50 d51 kp17 P17 => ?_⟩
      obtain ⟨kv, hkv, _, hm5⟩ := at_lt (xs := [V.bl true, V.bl false, V.bl true, V.bl false, kv1]) d5 d50 d51
      have hheld : HeldV G17 p kv := by
        refine HeldV.kp (G := G16) ?_ kp17
        simp only [List.mem_cons, List.not_mem_nil, or_false] at hm5
        rcases hm5 with rfl | rfl | rfl | rfl | rfl
        · exact .inl ⟨_, rfl⟩
        · exact .inl ⟨_, rfl⟩
        · exact .inl ⟨_, rfl⟩
        · exact .inl ⟨_, rfl⟩
        · exact hv1.kp (Kp.same s16)
      refine ⟨q7, _, d5, _, rfl, rfl, SqL.of (kp17 q7 _ q7p a16), hkv, ?_⟩
      have kpAll : Kp p G11 G17 := ((Kp.same ((s12.trans s13).trans s14)).trans kp15).trans ((Kp.same s16).trans kp17)
      have hx17 := kpAll D1 _ Dp hx11
      have hodd17 : ∀ x ∈ xs, OddV G17 p x := fun x hx => (hodd x hx).1.kp kpAll
      have hkT : ∀ v ∈ xs, ∀ G', Same G17 G' → KnownT K G' v := fun v hv G' s => ((hodd17 v hv).same s).knownT
      have hkp : ∀ G', Same G17 G' → KeepV K G' kv := fun G' s => (hheld.kp (Kp.same s)).keep
      -- made and due
      cases hdue : dueX xs kv with
      | none =>
        obtain ⟨rs, b, rfl, okr, hr1, rfl⟩ := due_right hdue
        have hsg : ∀ r ∈ rs, sg (ruleText r) = true := fun r hr => by
          have hmem : V.str (ruleText r) ∈ textsV rs := List.mem_map_of_mem (List.mem_map_of_mem hr)
          rcases hodd17 _ hmem with ⟨x, e, h⟩ | h | ⟨_, h⟩ | ⟨_, h⟩ | ⟨_, _, h, _⟩
          · rw [V.str.inj e]
            exact h.2
          · cases h
          · cases h
          · cases h
          · cases h
        refine ⟨_, rfl, _, rfl, D1, textsV rs, .bl b, rfl, SqL.of hx17, hx9, made_right okr hr1 fun x G18 n18 s18 sa18 => ?_⟩
        refine ⟨_, rfl, _, rfl, D1, textsV rs, .bl b, rfl, SqL.of (s18 _ _ hx17), hx9, fun v hv G' s => hkT v hv G' (s18.trans s), fun G' s => hkp G' (s18.trans s), fun _ G19 s19 => ?_, fun reason i hd => ?_⟩
        · refine ⟨_, _, rfl, ?_⟩
          refine ⟨_, rfl, rfl, _, rfl, iteT' rfl ?_⟩
          obtain ⟨dx, Dt, vs, i1, _⟩ := id (sa18.same s19)
          refine ⟨_, rfl, _, _, _, _, _, rfl, .own C, M.I.ty i1, M.ki, _, rfl, iteE' rfl ?_⟩
          refine ⟨_, rfl, _, rfl, _, rfl, x, D1, rs, b, rfl, s19 _ _ (s18 _ _ hx17), okr, hr1, hsg, sa18.same s19, fun G20 s20 => ⟨_, rfl, iteE' rfl ?_⟩⟩
          exact ⟨_, _, _, _, _, _, _, rfl, (P17.same ((s18.trans s19).trans s20)).mono (by omega)⟩
        · rw [hdue] at hd
          cases hd
      | some ri =>
        obtain ⟨reason, ix⟩ := ri
        have hdat := due_data hx9 hdue
        obtain ⟨sh1, sh2, sh3, sh4⟩ := shown_ok hdat
        refine ⟨_, rfl, _, rfl, D1, xs, kv, rfl, SqL.of hx17, hx9, ⟨fun v hv G' s => (hkT v hv G' s).known, hkp, fun reason' ix' hd ea d G18 n18 s18 e18 d18 => ?_, fun hd => ?_⟩⟩
        · rw [hdue] at hd
          cases hd
          refine ⟨_, rfl, _, rfl, D1, xs, kv, rfl, SqL.of (s18 _ _ hx17), hx9, fun v hv G' s => hkT v hv G' (s18.trans s), fun G' s => hkp G' (s18.trans s), fun hd => ?_, fun reason' ix' hd q G19 s19 lq => ?_⟩
          · rw [hdue] at hd
            cases hd
          · rw [hdue] at hd
            cases hd
            refine ⟨_, _, rfl, ?_⟩
            refine ⟨_, rfl, rfl, _, rfl, iteE' rfl ?_⟩
            have e19 := s19 _ _ e18
            have d19 := s19 _ _ d18
            refine ⟨_, rfl, ea, CE, d, _, .ref CE, .ref CE, true, rfl, e19, d19, TE.c.ec, fun u r => r, kEE, _, rfl, iteE' rfl ?_⟩
            refine ⟨_, rfl, ea, CE, d, _, _, rfl, e19, d19, TE.c.xf, TE.no _ List.mem_cons_self, rfl, ?_⟩
            refine ⟨_, rfl, ea, CE, d, _, _, rfl, e19, d19, TE.c.xf, TE.no _ (List.mem_cons_of_mem _ List.mem_cons_self), rfl, ?_⟩
            refine ⟨by show 2 ≤ sizeLine; decide, fun q20 G20 h20 s20 a20 => ?_⟩
            refine ⟨q20, errD reason ix, rfl, err_dp a20, sh1, sh2, sh3, sh4, ?_⟩
            refine ⟨_, rfl, q, errD reason ix, rfl, err_dp (s20 _ _ lq), sh1, sh2, sh3, sh4, ?_⟩
            refine ⟨rfl, _, rfl, iteE' (by simp) ?_⟩
            refine ⟨_, rfl, ea, CE, d, _, .ty "ValueError", .type "ValueError", true, rfl, s20 _ _ e19, s20 _ _ d19, TE.c.ec, fun u r => r, kEV, _, rfl, iteE' rfl ?_⟩
            exact ⟨_, _, _, _, _, _, _, rfl, (P17.same ((s18.trans s19).trans s20)).mono (by omega)⟩
        · rw [hdue] at hd
          cases hd
    rintro σ1 G2 ⟨o2, o3, o4, o6, o7, o8, o9, rfl, P2⟩
    obtain ⟨mc, u8, cr, cv⟩ := hT.most
    refine ⟨C, mc, .int 8, u8, rfl, cr, cv, rfl, _, rfl, iteT ?_⟩
    have one : ∀ (x : Str) (r : List (List Str)) (σ : L2.St) (H : Hp) (Q' : VK), ruleText r = x → rightR r → (∀ x1 G', H x1 = none → Same H G' → SameAt C G' x1 [r] true → Q' (.ref x1) G') →
        tMakeS C (spInitD K C CE) (WE fun _ _ _ _ => False) (tCons (tC (V.str x)) tNil) σ H Q' := fun x r σ H Q' e hr kx x1 dx h1 h2 ne => by
      subst e
      have okr : okRules [r] := ⟨by show 1 ≤ 8; decide, fun r' h => by rw [List.mem_singleton.mp h]; exact hr⟩
      have hr1 : 1 ≤ [r].length := by show 1 ≤ 1; decide
      have mq : MadeQ K C CE (textsV [r]) (.bl true) H Q' := made_right okr hr1 kx
      refine Made.wantD (xs := textsV [r]) ⟨mq.hk, by show 1 ≤ 100000; decide, mq.hkv, fun h => ?_, fun h i hi => ?_, fun h hn hb => ?_, fun h hn b hb x dx Dt vs G' n s ix tD rv => ?_⟩ x1 dx h1 h2 ne
      · exact absurd h (by show ¬ (decide ((1 : Int) ≤ ((1 : Nat) : Int)) && decide (((1 : Nat) : Int) ≤ 8)) = false; decide)
      · rw [rules_read okr] at hi
        cases i with
        | zero => cases hi
        | succ i => cases hi
      · exact absurd rfl (hb true)
      · exact mq.good (due_none okr hr1) b hb hn x dx Dt vs G' n s ix tD rv
    unfold tAndV tOp tFld
    dsimp only
    refine one (Str.ofString "a = b") [[Str.ofString "a"], [Str.ofString "b"]] _ G2 _ (by decide +kernel) ⟨by decide +kernel, by decide, by decide⟩ fun x1 G3 n3 s3 sa3 => ?_
    obtain ⟨dx3, D3, vs3, i3, j3, r3⟩ := sa3
    refine ⟨x1, C, dx3, _, _, rfl, i3, hT.cl, hT.n2, rfl, true, true, rfl, rfl, _, rfl, iteT ?_⟩
    refine one (Str.ofString "a = a") [[Str.ofString "a"], [Str.ofString "a"]] _ G3 _ (by decide +kernel) ⟨by decide +kernel, by decide, by decide⟩ fun x2 G4 n4 s4 sa4 => ?_
    obtain ⟨dx4, D4, vs4, i4, j4, r4⟩ := sa4
    refine ⟨x2, C, dx4, _, _, rfl, i4, hT.cl, hT.n1, rfl, ?_⟩
    refine ⟨by show 1 ≤ sizeLine; decide, fun t1 G5 h5 s5 a5 => ?_⟩
    refine ⟨by show 1 ≤ sizeLine; decide, fun t2 G6 h6 s6 a6 => ?_⟩
    refine ⟨by show 2 ≤ sizeLine; decide, fun t3 G7 h7 s7 a7 => ?_⟩
    refine ⟨by show 1 ≤ sizeLine; decide, fun t4 G8 h8 s8 a8 => ?_⟩
    have ok4 : okRules [[[Str.ofString "a"], [Str.ofString "a"]]] := ⟨by decide, fun r' h => by rw [List.mem_singleton.mp h]; exact ⟨by decide +kernel, by decide, by decide⟩⟩
    have S8 := ((s5.trans s6).trans s7).trans s8
    refine ⟨_, .tuple ([[[Str.ofString "a"], [Str.ofString "a"]]].map ruleD), .tup (SqT.of (S8 _ _ j4)) (rules_dp (r4.same S8)), .tup (SqT.of a8) (.cons (.tup (SqT.of (s8 _ _ a7)) (.cons (.tup (SqT.of (s8 _ _ (s7 _ _ (s6 _ _ a5)))) (.cons (.str _) .nil)) (.cons (.tup (SqT.of (s8 _ _ (s7 _ _ a6))) (.cons (.str _) .nil)) .nil))) .nil), rules_shaped ok4, rules_shaped ok4, ?_⟩
    rw [eqv_rules, decide_eq_true rfl]
    exact k G8
end
end K08
set_option Elab.async false
set_option linter.all false
set_option maxRecDepth 100000
set_option maxHeartbeats 4000000
namespace K08
open PySem PySem.Spec PyProof.Rows L2 TL Qh Qi Qm Qp ClX
def insB (K : PySem.W.Frag) (C : Addr) : Bool := ((PySem.W.plainGet K C Str.empty && PySem.W.hasDictIn K C) && (PySem.W.plainOver K C && decide (PySem.W.findIn K (.ref C) "__setattr__" = some (some (.builtin "object.__setattr__"))))) &&
  ((decide (PySem.W.findIn K (.ref C) "__class__" = some (some (.builtin "object.__class__"))) && decide (PySem.W.specialIn K (.builtin "object.__class__") "__get__" = some (some (.builtin "getset_descriptor.__get__")))) && (decide (PySem.W.takesIn K (.builtin "object.__class__") = some true) && decide (PySem.W.mroIn K C (.type "object") = some true)))
theorem insB_ok {K : PySem.W.Frag} {C : Addr} (h : insB K C = true) : InsT K C := by
  unfold insB at h
  simp only [Bool.and_eq_true, decide_eq_true_eq] at h
  obtain ⟨⟨⟨a1, a2⟩, a3, a4⟩, ⟨a5, a6⟩, a7, a8⟩ := h
  exact ⟨⟨a1, a2, a3, a4⟩, a5, a6, a7, a8⟩
def farT (CT : Addr) : List Value := [.type "NoneType", .type "str", .type "tuple", .type "list", .ref CT]
def sameB (K : PySem.W.Frag) (C CT : Addr) : Bool := (((decide (PySem.W.findIn K (.ref C) "rules" = some none) && decide (PySem.W.findIn K (.ref C) "keep" = some none)) && (PySem.W.readsIn K C (.type "type") && decide (PySem.W.specialIn K (.ref C) "__getattribute__" = some (some (.builtin "type.__getattribute__"))))) &&
  ((PySem.W.makesIn K C && PySem.W.keepIn K (.ref C)) && (decide (PySem.W.kitOne K (.ref C) (.ref C) = some true) && decide (PySem.W.findIn K (.ref C) "__ne__" = some (some (.builtin "object.__ne__")))))) &&
  ((decide (PySem.W.kitOne K (.ref C) (.ref CT) = some true) && (farT CT).all fun t => decide (PySem.W.kitOne K t (.ref C) = some false) && PySem.W.notFirst K C t) && (PySem.W.makesIn K CT && (decide (PySem.W.findIn K (.ref CT) "__init__" = some (some (.builtin "object.__init__"))) && PySem.W.keepIn K (.ref CT))))
theorem sameB_ok {K : PySem.W.Frag} {C CT : Addr} (h : sameB K C CT = true) : NoAttr K C "rules" ∧ NoAttr K C "keep" ∧ PySem.W.readsIn K C (.type "type") = true ∧ PySem.W.specialIn K (.ref C) "__getattribute__" = some (some (.builtin "type.__getattribute__")) ∧
    PySem.W.makesIn K C = true ∧ PySem.W.keepIn K (.ref C) = true ∧ PySem.W.kitOne K (.ref C) (.ref C) = some true ∧ PySem.W.findIn K (.ref C) "__ne__" = some (some (.builtin "object.__ne__")) ∧ PySem.W.kitOne K (.ref C) (.ref CT) = some true ∧
    (∀ t ∈ ([.type "NoneType", .type "str", .type "tuple", .type "list", .ref CT] : List Value), PySem.W.kitOne K t (.ref C) = some false ∧ PySem.W.notFirst K C t = true) ∧
    (PySem.W.makesIn K CT = true ∧ PySem.W.findIn K (.ref CT) "__init__" = some (some (.builtin "object.__init__")) ∧ PySem.W.keepIn K (.ref CT) = true) := by
  unfold sameB at h
  simp only [Bool.and_eq_true, decide_eq_true_eq] at h
  obtain ⟨⟨⟨⟨a1, a2⟩, a3, a4⟩, ⟨a5, a6⟩, a7, a8⟩, ⟨a9, a10⟩, a11, a12, a13⟩ := h
  refine ⟨a1, a2, a3, a4, a5, a6, a7, a8, a9, fun t ht => ?_, a11, a12, a13⟩
  have q := List.all_eq_true.mp a10 t ht
  simp only [Bool.and_eq_true, decide_eq_true_eq] at q
  exact q
def mostB (K : PySem.W.Frag) (C : Addr) : Bool := match PySem.W.findCls K (.ref C) (.type "type") "MOST" with
  | some (.val (.int i _)) => i == 8
  | _ => false
theorem mostB_ok {K : PySem.W.Frag} {C : Addr} (h : mostB K C = true) (rd : PySem.W.readsIn K C (.type "type") = true) (ga : PySem.W.specialIn K (.ref C) "__getattribute__" = some (some (.builtin "type.__getattribute__"))) : ∃ mc u, CRead K C mc ∧ CVal K C mc "MOST" (.int 8) u := by
  unfold mostB at h
  split at h
  · rename_i i t e
    have h := beq_iff_eq.mp h
    subst h
    exact ⟨.type "type", _, ⟨rd, ga⟩, ⟨e, ⟨t, rfl⟩⟩⟩
  · cases h
end K08
namespace K08
open PySem PySem.Spec PyProof.Rows L2 TL Qh Qi Qm Qp ClX
theorem all_mk {l : PySem.W.OpenLaw} {w : World} {K : PySem.W.Frag} {h : Heap} {mg : Str → Option Value} {fa : Addr} (X : K.In h) (G : h.Ns mainGlobals mg) (hfa : mg "law" = some (.ref fa))
    {tA tB tC tD : _}
    {f1 : Addr} {oc1 kV1 dc1 pm1 cd1 ct1 : Value} {od1 an1 : Option Addr} {sl1 : Array (Option Value)}
    {f2 : Addr} {oc2 kV2 dc2 pm2 cd2 ct2 : Value} {od2 an2 : Option Addr} {sl2 : Array (Option Value)}
    {f3 : Addr} {oc3 kV3 dc3 pm3 cd3 ct3 : Value} {od3 an3 : Option Addr} {sl3 : Array (Option Value)}
    {f4 : Addr} {oc4 kV4 dc4 pm4 cd4 ct4 : Value} {od4 an4 : Option Addr} {sl4 : Array (Option Value)}
    {f5 : Addr} {oc5 kV5 dc5 pm5 cd5 ct5 : Value} {od5 an5 : Option Addr} {sl5 : Array (Option Value)}
    {f6 : Addr} {oc6 kV6 dc6 pm6 cd6 ct6 : Value} {od6 an6 : Option Addr} {sl6 : Array (Option Value)}
    {f7 : Addr} {oc7 kV7 dc7 pm7 cd7 ct7 : Value} {od7 an7 : Option Addr} {sl7 : Array (Option Value)}
    {f8 : Addr} {oc8 kV8 dc8 pm8 cd8 ct8 : Value} {od8 an8 : Option Addr} {sl8 : Array (Option Value)}
    {f9 : Addr} {oc9 kV9 dc9 pm9 cd9 ct9 : Value} {od9 an9 : Option Addr} {sl9 : Array (Option Value)}
    {f10 : Addr} {oc10 kV10 dc10 pm10 cd10 ct10 : Value} {od10 an10 : Option Addr} {sl10 : Array (Option Value)}
    {f11 : Addr} {oc11 kV11 dc11 pm11 cd11 ct11 : Value} {od11 an11 : Option Addr} {sl11 : Array (Option Value)}
    {f12 : Addr} {oc12 kV12 dc12 pm12 cd12 ct12 : Value} {od12 an12 : Option Addr} {sl12 : Array (Option Value)}
    {f13 : Addr} {oc13 kV13 dc13 pm13 cd13 ct13 : Value} {od13 an13 : Option Addr} {sl13 : Array (Option Value)}
    {f14 : Addr} {oc14 kV14 dc14 pm14 cd14 ct14 : Value} {od14 an14 : Option Addr} {sl14 : Array (Option Value)}
    {f15 : Addr} {oc15 kV15 dc15 pm15 cd15 ct15 : Value} {od15 an15 : Option Addr} {sl15 : Array (Option Value)}
    {f16 : Addr} {oc16 kV16 dc16 pm16 cd16 ct16 : Value} {od16 an16 : Option Addr} {sl16 : Array (Option Value)}
    {f17 : Addr} {oc17 kV17 dc17 pm17 cd17 ct17 : Value} {od17 an17 : Option Addr} {sl17 : Array (Option Value)}
    {f18 : Addr} {oc18 kV18 dc18 pm18 cd18 ct18 : Value} {od18 an18 : Option Addr} {sl18 : Array (Option Value)}
    {f19 : Addr} {oc19 kV19 dc19 pm19 cd19 ct19 : Value} {od19 an19 : Option Addr} {sl19 : Array (Option Value)}
    {f20 : Addr} {oc20 kV20 dc20 pm20 cd20 ct20 : Value} {od20 an20 : Option Addr} {sl20 : Array (Option Value)}
    {f21 : Addr} {oc21 kV21 dc21 pm21 cd21 ct21 : Value} {od21 an21 : Option Addr} {sl21 : Array (Option Value)}
    {f22 : Addr} {oc22 kV22 dc22 pm22 cd22 ct22 : Value} {od22 an22 : Option Addr} {sl22 : Array (Option Value)}
    {CQ : Addr}
    {CE : Addr}
    {f23 : Addr} {oc23 kV23 dc23 pm23 cd23 ct23 : Value} {od23 an23 : Option Addr} {sl23 : Array (Option Value)}
    {CS : Addr}
    {CT : Addr}
    {f24 : Addr} {oc24 dc24 pm24 cd24 ct24 : Value} {od24 an24 : Option Addr} {sl24 : Array (Option Value)}
    {Dk : Addr}
    {f25 : Addr} {oc25 kV25 dc25 pm25 cd25 ct25 : Value} {od25 an25 : Option Addr} {sl25 : Array (Option Value)}
    {f26 : Addr} {oc26 kV26 dc26 pm26 cd26 ct26 : Value} {od26 an26 : Option Addr} {sl26 : Array (Option Value)}
    {f27 : Addr} {oc27 kV27 dc27 pm27 cd27 ct27 : Value} {od27 an27 : Option Addr} {sl27 : Array (Option Value)}
    {f28 : Addr} {oc28 kV28 dc28 pm28 cd28 ct28 : Value} {od28 an28 : Option Addr} {sl28 : Array (Option Value)}
    (a1 : PySem.W.nsIn K mainGlobals "is_letters" = some (some (.ref f1))) (l1 : K.lookup f1 = some ⟨oc1, od1, .func (PySem.W.fnOf "is_letters" "is_letters" (defArgs sLetters) (defBody sLetters) (defScope sLetters) .none kV1 dc1 pm1 an1 cd1 ct1), sl1⟩) (c1 : PySem.W.codeIn K cd1 "is_letters" = true) (k1 : PySem.W.keepIn K (.ref f1) = true)
    (a2 : PySem.W.nsIn K mainGlobals "is_word" = some (some (.ref f2))) (l2 : K.lookup f2 = some ⟨oc2, od2, .func (PySem.W.fnOf "is_word" "is_word" (defArgs sIsWord) (defBody sIsWord) (defScope sIsWord) .none kV2 dc2 pm2 an2 cd2 ct2), sl2⟩) (c2 : PySem.W.codeIn K cd2 "is_word" = true) (k2 : PySem.W.keepIn K (.ref f2) = true)
    (a3 : PySem.W.nsIn K mainGlobals "text_of" = some (some (.ref f3))) (l3 : K.lookup f3 = some ⟨oc3, od3, .func (PySem.W.fnOf "text_of" "text_of" (defArgs sTextOf) (defBody sTextOf) (defScope sTextOf) .none kV3 dc3 pm3 an3 cd3 ct3), sl3⟩) (c3 : PySem.W.codeIn K cd3 "text_of" = true) (k3 : PySem.W.keepIn K (.ref f3) = true)
    (a4 : PySem.W.nsIn K mainGlobals "quoted" = some (some (.ref f4))) (l4 : K.lookup f4 = some ⟨oc4, od4, .func (PySem.W.fnOf "quoted" "quoted" (defArgs sQuoted) (defBody sQuoted) (defScope sQuoted) .none kV4 dc4 pm4 an4 cd4 ct4), sl4⟩) (c4 : PySem.W.codeIn K cd4 "quoted" = true) (k4 : PySem.W.keepIn K (.ref f4) = true)
    (a5 : PySem.W.nsIn K mainGlobals "is_side" = some (some (.ref f5))) (l5 : K.lookup f5 = some ⟨oc5, od5, .func (PySem.W.fnOf "is_side" "is_side" (defArgs sSide) (defBody sSide) (defScope sSide) .none kV5 dc5 pm5 an5 cd5 ct5), sl5⟩) (c5 : PySem.W.codeIn K cd5 "is_side" = true) (k5 : PySem.W.keepIn K (.ref f5) = true)
    (a6 : PySem.W.nsIn K mainGlobals "rule_of" = some (some (.ref f6))) (l6 : K.lookup f6 = some ⟨oc6, od6, .func (PySem.W.fnOf "rule_of" "rule_of" (defArgs sRuleOf) (defBody sRuleOf) (defScope sRuleOf) .none kV6 dc6 pm6 an6 cd6 ct6), sl6⟩) (c6 : PySem.W.codeIn K cd6 "rule_of" = true) (k6 : PySem.W.keepIn K (.ref f6) = true)
    (a7 : PySem.W.nsIn K mainGlobals "rule_text" = some (some (.ref f7))) (l7 : K.lookup f7 = some ⟨oc7, od7, .func (PySem.W.fnOf "rule_text" "rule_text" (defArgs sRuleText) (defBody sRuleText) (defScope sRuleText) .none kV7 dc7 pm7 an7 cd7 ct7), sl7⟩) (c7 : PySem.W.codeIn K cd7 "rule_text" = true) (k7 : PySem.W.keepIn K (.ref f7) = true)
    (a8 : PySem.W.nsIn K mainGlobals "rule_line" = some (some (.ref f8))) (l8 : K.lookup f8 = some ⟨oc8, od8, .func (PySem.W.fnOf "rule_line" "rule_line" (defArgs sRuleLine) (defBody sRuleLine) (defScope sRuleLine) .none kV8 dc8 pm8 an8 cd8 ct8), sl8⟩) (c8 : PySem.W.codeIn K cd8 "rule_line" = true) (k8 : PySem.W.keepIn K (.ref f8) = true)
    (a9 : PySem.W.nsIn K mainGlobals "_law_pen" = some (some (.ref f9))) (l9 : K.lookup f9 = some ⟨oc9, od9, .func (PySem.W.fnOf "_law_pen" "_law_pen" (defArgs sPen) (defBody sPen) (defScope sPen) .none kV9 dc9 pm9 an9 cd9 ct9), sl9⟩) (c9 : PySem.W.codeIn K cd9 "_law_pen" = true) (k9 : PySem.W.keepIn K (.ref f9) = true)
    (a10 : PySem.W.nsIn K mainGlobals "_law_draw" = some (some (.ref f10))) (l10 : K.lookup f10 = some ⟨oc10, od10, .func (PySem.W.fnOf "_law_draw" "_law_draw" (defArgs sDraw) (defBody sDraw) (defScope sDraw) .none kV10 dc10 pm10 an10 cd10 ct10), sl10⟩) (c10 : PySem.W.codeIn K cd10 "_law_draw" = true) (k10 : PySem.W.keepIn K (.ref f10) = true)
    (a11 : PySem.W.nsIn K mainGlobals "_law_pick" = some (some (.ref f11))) (l11 : K.lookup f11 = some ⟨oc11, od11, .func (PySem.W.fnOf "_law_pick" "_law_pick" (defArgs sPick) (defBody sPick) (defScope sPick) .none kV11 dc11 pm11 an11 cd11 ct11), sl11⟩) (c11 : PySem.W.codeIn K cd11 "_law_pick" = true) (k11 : PySem.W.keepIn K (.ref f11) = true)
    (a12 : PySem.W.nsIn K mainGlobals "_law_few" = some (some (.ref f12))) (l12 : K.lookup f12 = some ⟨oc12, od12, .func (PySem.W.fnOf "_law_few" "_law_few" (defArgs sFew) (defBody sFew) (defScope sFew) .none kV12 dc12 pm12 an12 cd12 ct12), sl12⟩) (c12 : PySem.W.codeIn K cd12 "_law_few" = true) (k12 : PySem.W.keepIn K (.ref f12) = true)
    (a13 : PySem.W.nsIn K mainGlobals "_law_many" = some (some (.ref f13))) (l13 : K.lookup f13 = some ⟨oc13, od13, .func (PySem.W.fnOf "_law_many" "_law_many" (defArgs sMany) (defBody sMany) (defScope sMany) .none kV13 dc13 pm13 an13 cd13 ct13), sl13⟩) (c13 : PySem.W.codeIn K cd13 "_law_many" = true) (k13 : PySem.W.keepIn K (.ref f13) = true)
    (a14 : PySem.W.nsIn K mainGlobals "_law_made" = some (some (.ref f14))) (l14 : K.lookup f14 = some ⟨oc14, od14, .func (PySem.W.fnOf "_law_made" "_law_made" (defArgs sMade) (defBody sMade) (defScope sMade) .none kV14 dc14 pm14 an14 cd14 ct14), sl14⟩) (c14 : PySem.W.codeIn K cd14 "_law_made" = true) (k14 : PySem.W.keepIn K (.ref f14) = true)
    (a15 : PySem.W.nsIn K mainGlobals "_law_sides" = some (some (.ref f15))) (l15 : K.lookup f15 = some ⟨oc15, od15, .func (PySem.W.fnOf "_law_sides" "_law_sides" (defArgs sSides) (defBody sSides) (defScope sSides) .none kV15 dc15 pm15 an15 cd15 ct15), sl15⟩) (c15 : PySem.W.codeIn K cd15 "_law_sides" = true) (k15 : PySem.W.keepIn K (.ref f15) = true)
    (a16 : PySem.W.nsIn K mainGlobals "_law_told" = some (some (.ref f16))) (l16 : K.lookup f16 = some ⟨oc16, od16, .func (PySem.W.fnOf "_law_told" "_law_told" (defArgs sTold) (defBody sTold) (defScope sTold) .none kV16 dc16 pm16 an16 cd16 ct16), sl16⟩) (c16 : PySem.W.codeIn K cd16 "_law_told" = true) (k16 : PySem.W.keepIn K (.ref f16) = true)
    (a17 : PySem.W.nsIn K mainGlobals "_law_odd" = some (some (.ref f17))) (l17 : K.lookup f17 = some ⟨oc17, od17, .func (PySem.W.fnOf "_law_odd" "_law_odd" (defArgs sOdd) (defBody sOdd) (defScope sOdd) .none kV17 dc17 pm17 an17 cd17 ct17), sl17⟩) (c17 : PySem.W.codeIn K cd17 "_law_odd" = true) (k17 : PySem.W.keepIn K (.ref f17) = true)
    (a18 : PySem.W.nsIn K mainGlobals "_law_is_word" = some (some (.ref f18))) (l18 : K.lookup f18 = some ⟨oc18, od18, .func (PySem.W.fnOf "_law_is_word" "_law_is_word" (defArgs sLawIsWord) (defBody sLawIsWord) (defScope sLawIsWord) .none kV18 dc18 pm18 an18 cd18 ct18), sl18⟩) (c18 : PySem.W.codeIn K cd18 "_law_is_word" = true) (k18 : PySem.W.keepIn K (.ref f18) = true)
    (a19 : PySem.W.nsIn K mainGlobals "_law_read" = some (some (.ref f19))) (l19 : K.lookup f19 = some ⟨oc19, od19, .func (PySem.W.fnOf "_law_read" "_law_read" (defArgs sRead) (defBody sRead) (defScope sRead) .none kV19 dc19 pm19 an19 cd19 ct19), sl19⟩) (c19 : PySem.W.codeIn K cd19 "_law_read" = true) (k19 : PySem.W.keepIn K (.ref f19) = true)
    (a20 : PySem.W.nsIn K mainGlobals "_law_due" = some (some (.ref f20))) (l20 : K.lookup f20 = some ⟨oc20, od20, .func (PySem.W.fnOf "_law_due" "_law_due" (defArgs sDue) (defBody sDue) (defScope sDue) .none kV20 dc20 pm20 an20 cd20 ct20), sl20⟩) (c20 : PySem.W.codeIn K cd20 "_law_due" = true) (k20 : PySem.W.keepIn K (.ref f20) = true)
    (a21 : PySem.W.nsIn K mainGlobals "_law_tells" = some (some (.ref f21))) (l21 : K.lookup f21 = some ⟨oc21, od21, .func (PySem.W.fnOf "_law_tells" "_law_tells" (defArgs sTells) (defBody sTells) (defScope sTells) .none kV21 dc21 pm21 an21 cd21 ct21), sl21⟩) (c21 : PySem.W.codeIn K cd21 "_law_tells" = true) (k21 : PySem.W.keepIn K (.ref f21) = true)
    (a22 : PySem.W.nsIn K mainGlobals "law" = some (some (.ref f22))) (l22 : K.lookup f22 = some ⟨oc22, od22, .func (PySem.W.fnOf "law" "law" (defArgs sLaw) (defBody sLaw) (defScope sLaw) .none kV22 dc22 pm22 an22 cd22 ct22), sl22⟩) (c22 : PySem.W.codeIn K cd22 "law" = true) (k22 : PySem.W.keepIn K (.ref f22) = true)
    (gCQ : PySem.W.nsIn K mainGlobals "QuoteError" = some (some (.ref CQ)))
    (gCE : PySem.W.nsIn K mainGlobals "InvalidStep" = some (some (.ref CE)))
    (a23 : PySem.W.findIn K (.ref CE) "__init__" = some (some (.ref f23))) (t23 : PySem.W.typeIn K (.ref f23) = some (.type "function")) (l23 : K.lookup f23 = some ⟨oc23, od23, .func (PySem.W.fnOf "__init__" "InvalidStep.__init__" (defArgs sErrInit) (defBody sErrInit) (defScope sErrInit) .none kV23 dc23 pm23 an23 cd23 ct23), sl23⟩) (c23 : PySem.W.codeIn K cd23 "InvalidStep.__init__" = true) (k23 : PySem.W.keepIn K (.ref f23) = true)
    (x1CE : oexB K CE = true)
    (x2CE : oex2B K CE = true)
    (x3CE : xfB K CE = true)
    (x4CE : ecB K CE = true)
    (gCS : PySem.W.nsIn K mainGlobals "Same" = some (some (.ref CS)))
    (gCT : PySem.W.nsIn K mainGlobals "Step" = some (some (.ref CT)))
    (a24 : PySem.W.findIn K (.ref CS) "__init__" = some (some (.ref f24))) (t24 : PySem.W.typeIn K (.ref f24) = some (.type "function")) (l24 : K.lookup f24 = some ⟨oc24, od24, .func (PySem.W.fnOf "__init__" "Same.__init__" (defArgs sInit) (defBody sInit) (defScope sInit) .none (.ref Dk) dc24 pm24 an24 cd24 ct24), sl24⟩) (c24 : PySem.W.codeIn K cd24 "Same.__init__" = true) (k24 : PySem.W.keepIn K (.ref f24) = true)
    (a25 : PySem.W.findIn K (.ref CS) "result" = some (some (.ref f25))) (t25 : PySem.W.typeIn K (.ref f25) = some (.type "function")) (l25 : K.lookup f25 = some ⟨oc25, od25, .func (PySem.W.fnOf "result" "Same.result" (defArgs sResult) (defBody sResult) (defScope sResult) .none kV25 dc25 pm25 an25 cd25 ct25), sl25⟩) (c25 : PySem.W.codeIn K cd25 "Same.result" = true) (k25 : PySem.W.keepIn K (.ref f25) = true)
    (a26 : PySem.W.findIn K (.ref CS) "__eq__" = some (some (.ref f26))) (t26 : PySem.W.typeIn K (.ref f26) = some (.type "function")) (l26 : K.lookup f26 = some ⟨oc26, od26, .func (PySem.W.fnOf "__eq__" "Same.__eq__" (defArgs sEqS) (defBody sEqS) (defScope sEqS) .none kV26 dc26 pm26 an26 cd26 ct26), sl26⟩) (c26 : PySem.W.codeIn K cd26 "Same.__eq__" = true) (k26 : PySem.W.keepIn K (.ref f26) = true)
    (a27 : PySem.W.findIn K (.ref CS) "__str__" = some (some (.ref f27))) (t27 : PySem.W.typeIn K (.ref f27) = some (.type "function")) (l27 : K.lookup f27 = some ⟨oc27, od27, .func (PySem.W.fnOf "__str__" "Same.__str__" (defArgs sStrS) (defBody sStrS) (defScope sStrS) .none kV27 dc27 pm27 an27 cd27 ct27), sl27⟩) (c27 : PySem.W.codeIn K cd27 "Same.__str__" = true) (k27 : PySem.W.keepIn K (.ref f27) = true)
    (a28 : PySem.W.findIn K (.ref CS) "__repr__" = some (some (.ref f28))) (t28 : PySem.W.typeIn K (.ref f28) = some (.type "function")) (l28 : K.lookup f28 = some ⟨oc28, od28, .func (PySem.W.fnOf "__repr__" "Same.__repr__" (defArgs sReprS) (defBody sReprS) (defScope sReprS) .none kV28 dc28 pm28 an28 cd28 ct28), sl28⟩) (c28 : PySem.W.codeIn K cd28 "Same.__repr__" = true) (k28 : PySem.W.keepIn K (.ref f28) = true)
    (fr : freeB K bltNames = true)
    (ex : PySem.W.exmOne K (.ref CE) (.ref CQ) = some true)
    (kEE : PySem.W.kitOne K (.ref CE) (.ref CE) = some true)
    (kEV : PySem.W.kitOne K (.ref CE) (.type "ValueError") = some true)
    (fe : freeB K ["ValueError"] = true)
    (i1 : insB K CS = true)
    (i2 : insB K CT = true)
    (s1 : sameB K CS CT = true)
    (m1 : mostB K CS = true)
    (gA : PySem.W.nsIn K mainGlobals "MOST_LETTERS" = some (some (.int 10 tA)))
    (gB : PySem.W.nsIn K mainGlobals "MOST_SIDE_WORDS" = some (some (.int 4 tB)))
    (gC : PySem.W.nsIn K mainGlobals "LEAST_SIDES" = some (some (.int 2 tC)))
    (gD : PySem.W.nsIn K mainGlobals "MOST_SIDES" = some (some (.int 4 tD)))
    (no1 : PySem.W.findIn K (.ref CE) "reason" = some none)
    (no2 : PySem.W.findIn K (.ref CE) "index" = some none)
    (hd : PySem.W.nsIn K Dk "keep" = some (some (.bool true))) :
    ∃ fd : FuncData, (∀ (s : Shared) (v : Value), BindsTo s fd ⟨[v], []⟩ [("_law_script", v)]) ∧ ∀ base : Heap, K.In base → base.Ns mainGlobals mg → FnG l.prog w K mg base (L2.CX l.prog w) 10 fa fd ["_law_script"] (spLaw K) := by
  have e := hfa.symm.trans (PySem.W.mg_of X G a22)
  cases e
  have Fn1 : Fun K "is_letters" "is_letters" sLetters f1 _ := fun_mk (st := sLetters) l1 c1 k1
  have D_is_letters : DefIn K mg "is_letters" sLetters := ⟨⟨f1, _, Fn1, PySem.W.mg_of X G a1⟩⟩
  have Fn2 : Fun K "is_word" "is_word" sIsWord f2 _ := fun_mk (st := sIsWord) l2 c2 k2
  have D_is_word : DefIn K mg "is_word" sIsWord := ⟨⟨f2, _, Fn2, PySem.W.mg_of X G a2⟩⟩
  have Fn3 : Fun K "text_of" "text_of" sTextOf f3 _ := fun_mk (st := sTextOf) l3 c3 k3
  have D_text_of : DefIn K mg "text_of" sTextOf := ⟨⟨f3, _, Fn3, PySem.W.mg_of X G a3⟩⟩
  have Fn4 : Fun K "quoted" "quoted" sQuoted f4 _ := fun_mk (st := sQuoted) l4 c4 k4
  have D_quoted : DefIn K mg "quoted" sQuoted := ⟨⟨f4, _, Fn4, PySem.W.mg_of X G a4⟩⟩
  have Fn5 : Fun K "is_side" "is_side" sSide f5 _ := fun_mk (st := sSide) l5 c5 k5
  have D_is_side : DefIn K mg "is_side" sSide := ⟨⟨f5, _, Fn5, PySem.W.mg_of X G a5⟩⟩
  have Fn6 : Fun K "rule_of" "rule_of" sRuleOf f6 _ := fun_mk (st := sRuleOf) l6 c6 k6
  have D_rule_of : DefIn K mg "rule_of" sRuleOf := ⟨⟨f6, _, Fn6, PySem.W.mg_of X G a6⟩⟩
  have Fn7 : Fun K "rule_text" "rule_text" sRuleText f7 _ := fun_mk (st := sRuleText) l7 c7 k7
  have D_rule_text : DefIn K mg "rule_text" sRuleText := ⟨⟨f7, _, Fn7, PySem.W.mg_of X G a7⟩⟩
  have Fn8 : Fun K "rule_line" "rule_line" sRuleLine f8 _ := fun_mk (st := sRuleLine) l8 c8 k8
  have D_rule_line : DefIn K mg "rule_line" sRuleLine := ⟨⟨f8, _, Fn8, PySem.W.mg_of X G a8⟩⟩
  have Fn9 : Fun K "_law_pen" "_law_pen" sPen f9 _ := fun_mk (st := sPen) l9 c9 k9
  have D__law_pen : DefIn K mg "_law_pen" sPen := ⟨⟨f9, _, Fn9, PySem.W.mg_of X G a9⟩⟩
  have Fn10 : Fun K "_law_draw" "_law_draw" sDraw f10 _ := fun_mk (st := sDraw) l10 c10 k10
  have D__law_draw : DefIn K mg "_law_draw" sDraw := ⟨⟨f10, _, Fn10, PySem.W.mg_of X G a10⟩⟩
  have Fn11 : Fun K "_law_pick" "_law_pick" sPick f11 _ := fun_mk (st := sPick) l11 c11 k11
  have D__law_pick : DefIn K mg "_law_pick" sPick := ⟨⟨f11, _, Fn11, PySem.W.mg_of X G a11⟩⟩
  have Fn12 : Fun K "_law_few" "_law_few" sFew f12 _ := fun_mk (st := sFew) l12 c12 k12
  have D__law_few : DefIn K mg "_law_few" sFew := ⟨⟨f12, _, Fn12, PySem.W.mg_of X G a12⟩⟩
  have Fn13 : Fun K "_law_many" "_law_many" sMany f13 _ := fun_mk (st := sMany) l13 c13 k13
  have D__law_many : DefIn K mg "_law_many" sMany := ⟨⟨f13, _, Fn13, PySem.W.mg_of X G a13⟩⟩
  have Fn14 : Fun K "_law_made" "_law_made" sMade f14 _ := fun_mk (st := sMade) l14 c14 k14
  have D__law_made : DefIn K mg "_law_made" sMade := ⟨⟨f14, _, Fn14, PySem.W.mg_of X G a14⟩⟩
  have Fn15 : Fun K "_law_sides" "_law_sides" sSides f15 _ := fun_mk (st := sSides) l15 c15 k15
  have D__law_sides : DefIn K mg "_law_sides" sSides := ⟨⟨f15, _, Fn15, PySem.W.mg_of X G a15⟩⟩
  have Fn16 : Fun K "_law_told" "_law_told" sTold f16 _ := fun_mk (st := sTold) l16 c16 k16
  have D__law_told : DefIn K mg "_law_told" sTold := ⟨⟨f16, _, Fn16, PySem.W.mg_of X G a16⟩⟩
  have Fn17 : Fun K "_law_odd" "_law_odd" sOdd f17 _ := fun_mk (st := sOdd) l17 c17 k17
  have D__law_odd : DefIn K mg "_law_odd" sOdd := ⟨⟨f17, _, Fn17, PySem.W.mg_of X G a17⟩⟩
  have Fn18 : Fun K "_law_is_word" "_law_is_word" sLawIsWord f18 _ := fun_mk (st := sLawIsWord) l18 c18 k18
  have D__law_is_word : DefIn K mg "_law_is_word" sLawIsWord := ⟨⟨f18, _, Fn18, PySem.W.mg_of X G a18⟩⟩
  have Fn19 : Fun K "_law_read" "_law_read" sRead f19 _ := fun_mk (st := sRead) l19 c19 k19
  have D__law_read : DefIn K mg "_law_read" sRead := ⟨⟨f19, _, Fn19, PySem.W.mg_of X G a19⟩⟩
  have Fn20 : Fun K "_law_due" "_law_due" sDue f20 _ := fun_mk (st := sDue) l20 c20 k20
  have D__law_due : DefIn K mg "_law_due" sDue := ⟨⟨f20, _, Fn20, PySem.W.mg_of X G a20⟩⟩
  have Fn21 : Fun K "_law_tells" "_law_tells" sTells f21 _ := fun_mk (st := sTells) l21 c21 k21
  have D__law_tells : DefIn K mg "_law_tells" sTells := ⟨⟨f21, _, Fn21, PySem.W.mg_of X G a21⟩⟩
  have Fn22 : Fun K "law" "law" sLaw fa _ := fun_mk (st := sLaw) l22 c22 k22
  have mCQ : mg "QuoteError" = some (.ref CQ) := PySem.W.mg_of X G gCQ
  have mCE : mg "InvalidStep" = some (.ref CE) := PySem.W.mg_of X G gCE
  have Fn23 : Fun K "__init__" "InvalidStep.__init__" sErrInit f23 _ := fun_mk (st := sErrInit) l23 c23 k23
  have biCE : Binds K _ ["self", "reason", "index"] [] := Fn23.binds (ps := ["self", "reason", "index"]) fun _ _ _ _ _ _ us hl => match us, hl with | [_, _, _], _ => rfl
  have ECE : ErrC K mg "InvalidStep" CE := errC_of mCE x1CE x2CE x3CE x4CE
  have mCS : mg "Same" = some (.ref CS) := PySem.W.mg_of X G gCS
  have mCT : mg "Step" = some (.ref CT) := PySem.W.mg_of X G gCT
  have Fn24 : Fun K "__init__" "Same.__init__" sInit f24 _ := fun_mk (st := sInit) l24 c24 k24
  have Fn25 : Fun K "result" "Same.result" sResult f25 _ := fun_mk (st := sResult) l25 c25 k25
  have bm25 : Binds K _ ["self", "value"] [] := Fn25.binds (ps := ["self", "value"]) fun _ _ _ _ _ _ us hl => match us, hl with | [_, _], _ => rfl
  have Fn26 : Fun K "__eq__" "Same.__eq__" sEqS f26 _ := fun_mk (st := sEqS) l26 c26 k26
  have bm26 : Binds K _ ["self", "other"] [] := Fn26.binds (ps := ["self", "other"]) fun _ _ _ _ _ _ us hl => match us, hl with | [_, _], _ => rfl
  have Fn27 : Fun K "__str__" "Same.__str__" sStrS f27 _ := fun_mk (st := sStrS) l27 c27 k27
  have bm27 : Binds K _ ["self"] [] := Fn27.binds (ps := ["self"]) fun _ _ _ _ _ _ us hl => match us, hl with | [_], _ => rfl
  have Fn28 : Fun K "__repr__" "Same.__repr__" sReprS f28 _ := fun_mk (st := sReprS) l28 c28 k28
  have bm28 : Binds K _ ["self"] [] := Fn28.binds (ps := ["self"]) fun _ _ _ _ _ _ us hl => match us, hl with | [_], _ => rfl
  have B : Blt mg := blt_of X G fr
  refine ⟨PySem.W.fnOf "law" "law" (defArgs sLaw) (defBody sLaw) (defScope sLaw) .none kV22 dc22 pm22 an22 cd22 ct22, fun s v => .of_eq rfl, fun base _ _ => ?_⟩

  have hA : ∃ t, mg "MOST_LETTERS" = some (.int 10 t) := ⟨_, PySem.W.mg_of X G gA⟩
  have hB : ∃ t, mg "MOST_SIDE_WORDS" = some (.int 4 t) := ⟨_, PySem.W.mg_of X G gB⟩
  have hC : ∃ t, mg "LEAST_SIDES" = some (.int 2 t) := ⟨_, PySem.W.mg_of X G gC⟩
  have hD : ∃ t, mg "MOST_SIDES" = some (.int 4 t) := ⟨_, PySem.W.mg_of X G gD⟩
  have nVE : mg "ValueError" = none := freeB_ok X G fe (by decide +kernel)
  have no : ∀ x ∈ (["reason", "index"] : List Str), PySem.W.findIn K (.ref CE) x = some none := fun x hx => by
    rcases List.mem_cons.mp hx with rfl | hx
    · exact no1
    · rw [List.mem_singleton.mp hx]
      exact no2
  have TE : Qi.ErrN l.prog w K mg base "InvalidStep" ["reason", "index"] CE := ⟨ECE, no, ⟨_, _, a23, t23, biCE, ok_errInit Fn23 ECE.o no⟩⟩
  have I1 := insB_ok i1
  have I2 := insB_ok i2
  obtain ⟨z1, z2, z3, z4, z5, z6, z7, z8, z9, z10, z11⟩ := sameB_ok s1
  have T : SameC K mg CS := ⟨mCS, I1.cl, z1, z2, mostB_ok m1 z3 z4⟩
  have letters := ok_letters (P := l.prog) (w := w) (base := base) D_is_letters B
  have isWord := ok_isWord D_is_word hA letters
  have textOf := ok_textOf (P := l.prog) (w := w) (base := base) D_text_of
  have quoted := ok_quoted (P := l.prog) (w := w) (base := base) D_quoted B
  have side := ok_side D_is_side B hB isWord
  have ruleOf := ok_ruleOf D_rule_of B hC hD side
  have ruleText := ok_ruleText D_rule_text textOf
  have ruleLine := ok_ruleLine D_rule_line ruleText
  have pen := ok_pen (P := l.prog) (w := w) (base := base) D__law_pen B
  have draw := ok_draw (P := l.prog) (w := w) (base := base) D__law_draw B
  have pick := ok_pick D__law_pick B draw
  have init := ok_init Fn24 B T TE ruleOf
  have initD := ok_initD l24 c24 hd B T TE ruleOf
  have MK : Mk K CS f24 := ⟨z5, a24, beq_iff_eq.mpr t24, z6⟩
  have few := ok_few D__law_few B mCS MK init
  have many := ok_many D__law_many B mCS MK init
  have made := ok_made D__law_made B mCQ ex few many
  have sides := ok_sides D__law_sides B draw pick
  have told := ok_told (P := l.prog) (w := w) (base := base) D__law_told
  have odd := ok_odd D__law_odd B pick sides told
  have isWordL := ok_lawIsWord (P := l.prog) (w := w) (base := base) D__law_is_word B
  have read := ok_read D__law_read B isWordL
  have due := ok_due D__law_due B read
  have FE := ok_eqS (P := l.prog) (w := w) (base := base) Fn26 B T I1 z7
  have FT := ok_strS (base := base) Fn27 T ruleLine
  have FR := ok_reprS (base := base) Fn28 T ruleText quoted
  have FD := ok_result (P := l.prog) (w := w) (mg := mg) (base := base) Fn25
  have raw : ∀ {k : Nat} {f : Addr} {fd : FuncData} {ps : List Str} {sp : Sp}, FnOk l.prog w K mg base (L2.CX l.prog w) k f fd ps sp → Binds K fd ps [] → FnR l.prog w K mg base (L2.CX l.prog w) k f sp := fun F hb => (F.raw hb .nil).imp fun vs H Q E h => by
    rw [List.append_nil]
    exact h
  have M : SameM l.prog w K mg base CS CT := ⟨T, I1, I2, ⟨_, a26, beq_iff_eq.mpr t26, raw FE bm26⟩, z8, ⟨_, a28, beq_iff_eq.mpr t28, raw FR bm28⟩, ⟨_, a27, beq_iff_eq.mpr t27, raw FT bm27⟩, ⟨_, _, ⟨a25, beq_iff_eq.mpr t25, k25⟩, bm25, FD⟩, z9, z7, z10, mCT, z11.1, z11.2.1, z11.2.2⟩
  have tells := ok_tells D__law_tells B M read made
  exact ok_law Fn22 B nVE M TE kEE kEV MK initD pen draw pick sides told odd made due tells
theorem walk {l : PySem.W.OpenLaw} {q : Program} {loose : List Str} {XP : (Str → Option Value) → Heap → Prop} {YP : World → Heap → Prop} {d : DefRec} {K : Params → PySem.W.Frag} (hn : l.most = some 63) (hdf : d.params.defaults = [])
    (hY : ∀ (w : World) (h : Heap), YP w h → (K w.params).In h)
    (F : ∀ (w : World) (mg : Str → Option Value) (fa : Addr) (h : Heap), (K w.params).In h → h.Ns mainGlobals mg → mg d.name = some (.ref fa) →
      ∃ fd : FuncData, (∀ (s : Shared) (u : Value), BindsTo s fd ⟨[u], []⟩ [("_law_script", u)]) ∧ ∀ base : Heap, (K w.params).In base → base.Ns mainGlobals mg → FnG l.prog w (K w.params) mg base (L2.CX l.prog w) 10 fa fd ["_law_script"] (spLaw (K w.params))) :
    PySem.W.WalkO q loose XP YP l.row.toRowW d [] (fun f vs => PySem.call f vs) :=
  Qh.walk_ofG (n := 63) (k := 10) (x := "_law_script") (CX := fun w => L2.CX l.prog w) (sp := fun w => spLaw (K w.params)) hn (by decide) hdf ⟨rfl, by decide, by decide⟩ hY F (fun _ _ a ns _ _ hS => ⟨a, ns, rfl, hS, fun _ => rfl⟩) fun _ _ _ _ _ h => by
    obtain ⟨_, _, _, _, _, _, _, _, _, _, _, _, z⟩ := h
    exact z.elim
end K08
open PySem PySem.W PyProof.Rows
set_option maxRecDepth 100000 in
set_option maxHeartbeats 0 in
theorem PySem.Challenge.cw_quotehome_k08_rules_made_holds : PySem.Challenge.rw_quotehome_k08_rules_made.Holds := by
  w_on; o_law; k_head; (case hw => w_witness2)
  k_fill
  refine K08.walk (l := PySem.Challenge.rw_quotehome_k08_rules_made) rfl rfl (fun w h Y => PySem.W.kIn_of Y) ?F
  case F =>
    intro w mg fa h KX G hmg
    refine' K08.all_mk KX G hmg ?a1 ?l1 ?c1 ?k1 ?a2 ?l2 ?c2 ?k2 ?a3 ?l3 ?c3 ?k3 ?a4 ?l4 ?c4 ?k4 ?a5 ?l5 ?c5 ?k5 ?a6 ?l6 ?c6 ?k6 ?a7 ?l7 ?c7 ?k7 ?a8 ?l8 ?c8 ?k8 ?a9 ?l9 ?c9 ?k9 ?a10 ?l10 ?c10 ?k10 ?a11 ?l11 ?c11 ?k11 ?a12 ?l12 ?c12 ?k12 ?a13 ?l13 ?c13 ?k13 ?a14 ?l14 ?c14 ?k14 ?a15 ?l15 ?c15 ?k15 ?a16 ?l16 ?c16 ?k16 ?a17 ?l17 ?c17 ?k17 ?a18 ?l18 ?c18 ?k18 ?a19 ?l19 ?c19 ?k19 ?a20 ?l20 ?c20 ?k20 ?a21 ?l21 ?c21 ?k21 ?a22 ?l22 ?c22 ?k22 ?gCQ ?gCE ?a23 ?t23 ?l23 ?c23 ?k23 ?x1CE ?x2CE ?x3CE ?x4CE ?gCS ?gCT ?a24 ?t24 ?l24 ?c24 ?k24 ?a25 ?t25 ?l25 ?c25 ?k25 ?a26 ?t26 ?l26 ?c26 ?k26 ?a27 ?t27 ?l27 ?c27 ?k27 ?a28 ?t28 ?l28 ?c28 ?k28 ?fr ?ex ?kEE ?kEV ?fe ?i1 ?i2 ?s1 ?m1 ?gA ?gB ?gC ?gD ?no1 ?no2 ?hd
    (case a1 => k_is)
    (case l1 => k_is)
    (case c1 => k_is)
    (case k1 => k_is)
    (case a2 => k_is)
    (case l2 => k_is)
    (case c2 => k_is)
    (case k2 => k_is)
    (case a3 => k_is)
    (case l3 => k_is)
    (case c3 => k_is)
    (case k3 => k_is)
    (case a4 => k_is)
    (case l4 => k_is)
    (case c4 => k_is)
    (case k4 => k_is)
    (case a5 => k_is)
    (case l5 => k_is)
    (case c5 => k_is)
    (case k5 => k_is)
    (case a6 => k_is)
    (case l6 => k_is)
    (case c6 => k_is)
    (case k6 => k_is)
    (case a7 => k_is)
    (case l7 => k_is)
    (case c7 => k_is)
    (case k7 => k_is)
    (case a8 => k_is)
    (case l8 => k_is)
    (case c8 => k_is)
    (case k8 => k_is)
    (case a9 => k_is)
    (case l9 => k_is)
    (case c9 => k_is)
    (case k9 => k_is)
    (case a10 => k_is)
    (case l10 => k_is)
    (case c10 => k_is)
    (case k10 => k_is)
    (case a11 => k_is)
    (case l11 => k_is)
    (case c11 => k_is)
    (case k11 => k_is)
    (case a12 => k_is)
    (case l12 => k_is)
    (case c12 => k_is)
    (case k12 => k_is)
    (case a13 => k_is)
    (case l13 => k_is)
    (case c13 => k_is)
    (case k13 => k_is)
    (case a14 => k_is)
    (case l14 => k_is)
    (case c14 => k_is)
    (case k14 => k_is)
    (case a15 => k_is)
    (case l15 => k_is)
    (case c15 => k_is)
    (case k15 => k_is)
    (case a16 => k_is)
    (case l16 => k_is)
    (case c16 => k_is)
    (case k16 => k_is)
    (case a17 => k_is)
    (case l17 => k_is)
    (case c17 => k_is)
    (case k17 => k_is)
    (case a18 => k_is)
    (case l18 => k_is)
    (case c18 => k_is)
    (case k18 => k_is)
    (case a19 => k_is)
    (case l19 => k_is)
    (case c19 => k_is)
    (case k19 => k_is)
    (case a20 => k_is)
    (case l20 => k_is)
    (case c20 => k_is)
    (case k20 => k_is)
    (case a21 => k_is)
    (case l21 => k_is)
    (case c21 => k_is)
    (case k21 => k_is)
    (case a22 => k_is)
    (case l22 => k_is)
    (case c22 => k_is)
    (case k22 => k_is)
    (case gCQ => k_is)
    (case gCE => k_is)
    (case a23 => k_is)
    (case t23 => k_is)
    (case l23 => k_is)
    (case c23 => k_is)
    (case k23 => k_is)
    (case x1CE => kernel_rfl)
    (case x2CE => kernel_rfl)
    (case x3CE => kernel_rfl)
    (case x4CE => kernel_rfl)
    (case gCS => k_is)
    (case gCT => k_is)
    (case a24 => k_is)
    (case t24 => k_is)
    (case l24 => k_is)
    (case c24 => k_is)
    (case k24 => k_is)
    (case a25 => k_is)
    (case t25 => k_is)
    (case l25 => k_is)
    (case c25 => k_is)
    (case k25 => k_is)
    (case a26 => k_is)
    (case t26 => k_is)
    (case l26 => k_is)
    (case c26 => k_is)
    (case k26 => k_is)
    (case a27 => k_is)
    (case t27 => k_is)
    (case l27 => k_is)
    (case c27 => k_is)
    (case k27 => k_is)
    (case a28 => k_is)
    (case t28 => k_is)
    (case l28 => k_is)
    (case c28 => k_is)
    (case k28 => k_is)
    (case fr => kernel_rfl)
    (case ex => kernel_rfl)
    (case kEE => kernel_rfl)
    (case kEV => kernel_rfl)
    (case fe => kernel_rfl)
    (case i1 => kernel_rfl)
    (case i2 => kernel_rfl)
    (case s1 => kernel_rfl)
    (case m1 => kernel_rfl)
    (case gA => k_is)
    (case gB => k_is)
    (case gC => k_is)
    (case gD => k_is)
    (case no1 => k_is)
    (case no2 => k_is)
    (case hd => k_is)
