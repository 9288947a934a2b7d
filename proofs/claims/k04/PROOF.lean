import PyProof.Rows.All
import Wide.All
import OpenK.AllK
import Wide.FinOn
import HandS.ForMost
import HandS.ForExc
import HandS.ExcInit
import HandS.ExcIs
import HandS.Deep
import HandS.Defaults
import HandS.ExcField
import HandS.ExcValue
import KE.KExcIs
import HandS.Text
import HandS.TupLe
import HandS.IsInst
import HandS.Steps
import HandS.Walk
import HandS.StrMore
import HandS.FStrTup
import HandS.More
import HandS.SlotsOwn
import HandS.RaiseMore
import KE.KCallOwn
import PyProof.InstNe
import HandS.SortKw
import KE.DatumOrd
import KE.GoesEnum
import HandS.Set
import HandS.Sort
import KE.KExcInit
import HandS.Star
import HandS.New0
import HandS.FStr
import HandS.ClsMeth
import HandS.DictTup
import HandS.SortInts
import HandS.SortOrd
import HandS.Keys
import HandS.Conv
import KE.KSortTupAny
import HandS.MethStar
import HandS.NestedK
import KE.KSuper
import KE.KParD
import KE.KeyNested
import KE.KDictWalk
import KE.KDictCopyH
import HandS.WordsDict
import HandS.Iter
import HandS.TryOnly
import HandS.ListItems
import PySem.Challenge.RW_quotehome_k04_swaps
set_option Elab.async false
set_option linter.all false
set_option maxRecDepth 100000
set_option maxHeartbeats 4000000
/-! Calls where no repr is under way (guards): the def's promise, its body, its call, the law's end. -/
namespace Qh
open PySem PySem.Spec PyProof.Rows L2
section
variable {P : Program} {w : World} {K : PySem.W.Frag} {mg : Str → Option Value} {base : Heap} {CX : CXT} {k : Nat} {f : Addr} {fd : FuncData} {ps : List Str} {sp : Sp}

/-- one call of f, at the around A -/
def RunAt (P : Program) (w : World) (K : PySem.W.Frag) (mg : Str → Option Value) (base : Heap) (CX : CXT) (k : Nat) (f : Addr) (fd : FuncData) (ps : List Str) (sp : Sp) (A : Around) : Prop :=
  ∀ (out : List Env) (t : Shared) (G : Hp) (xs : Args) (us : List Value) (vs : List V) (Q : VK) (E : XK),
    Room k A → Env0 P w K mg base A out t G → BindsTo t fd xs (ps.zip us) → Vals vs us → sp vs G Q E →
      codeAny (model P w) A (.call (.ref f) xs) (CR CX out P w G t Q E) t

/-- the promise of a def that is called where no repr is under way -/
structure FnG (P : Program) (w : World) (K : PySem.W.Frag) (mg : Str → Option Value) (base : Heap) (CX : CXT) (k : Nat) (f : Addr) (fd : FuncData) (ps : List Str) (sp : Sp) : Prop where
  len : ∀ vs G Q E, sp vs G Q E → vs.length = ps.length
  run : ∀ A : Around, A.guards = some [] → RunAt P w K mg base CX k f fd ps sp A

theorem FnG.of (F : FnOk P w K mg base CX k f fd ps sp) : FnG P w K mg base CX k f fd ps sp :=
  ⟨F.len, fun A _ out t G xs us vs Q E hr e0 hb r h => F.run A out t G xs us vs Q E hr e0 hb r h⟩

theorem runAt_of {A : Around} {name qual : Str} {params : Arguments} {body : List Stmt} {scope : Scope} {dV kV doc pm cdv ct oc : Value} {an od : Option Addr} {osl : Array (Option Value)} {N : List Str}
    (lk : K.lookup f = some ⟨oc, od, .func (PySem.W.fnOf name qual params body scope dV kV doc pm an cdv ct), osl⟩)
    (hcd : PySem.W.codeIn K cdv qual = true) (S : FnScope N ps scope)
    (len : ∀ vs G Q E, sp vs G Q E → vs.length = ps.length)
    (hbody : ∀ (out : List Env) (t : Shared) (G : Hp) (vs : List V) (Q : VK) (E : XK),
      Room k (A.deeper (envOfC qual scope t.heap.objs.size f cdv)) → sp vs G Q E →
      ∃ rd, PSs (cxOf CX P w K mg base N qual scope f cdv A out t G E) body rd ∧ rd { nx := fun _ G' => Q .non G', rt := Q } (start N vs) G) :
    RunAt P w K mg base CX (k + 1) f (PySem.W.fnOf name qual params body scope dV kV doc pm an cdv ct) ps sp A := by
  intro out t G xs us vs Q E room e0 binds rel want
  have kin : K.In t.heap := e0.mod.kin.keeps fun a o h => (e0.bs a o h).1
  have nolim : t.heap.NoLimit := e0.mod.nolimit.keeps fun a o h => (e0.bs a o h).1
  have kinds : ∀ y ∈ ps.zip us, scope.names.lookup y.1 = some .local ∨ (scope.names.lookup y.1 = some .cell ∧
      ((cellsFrom (t.heap.objs.size + 1) scope.names []).lookup y.1).isSome = true) := by
    rintro ⟨n, v⟩ hy
    cases S.par n (List.of_mem_zip hy).1 with
    | inl q => exact Or.inl q
    | inr q => exact Or.inr ⟨q, PySem.W.cellsFrom_some _ _ _ (.inl q)⟩
  refine codeAny_call_function room.depth (kin _ _ lk) rfl S.co S.gen rfl (PySem.W.codeRec_of kin hcd) (binds _ _ _ _ ?_)
  refine wpAny_newFunctionEnv_cells S.kind kinds fun env he s1 inside => ?_
  subst he
  refine ⟨nolim.keeps inside.toInCall.keep, codeAny_func ?_⟩
  obtain ⟨rd, hrd, hq⟩ := hbody out t G vs Q E (room.deeper _) want
  have I := inv_start (CX := CX) (E := E) S room.hd e0 (len _ _ _ _ want) rel inside
  refine wpAny_mono (hrd.run [] s1 (start N vs) G _ I hq) ?_ (fun _ _ z => z)
  intro flow s2 hs
  cases flow with
  | ret u =>
    obtain ⟨v, σ', G', J, rv, q⟩ := hs
    exact ⟨v, G', J.os, J.bare, J.base, J.hok, rv, q⟩
  | next =>
    obtain ⟨σ', G', J, q⟩ := hs
    exact ⟨V.non, G', J.os, J.bare, J.base, J.hok, rfl, q⟩
  | brk => exact (hs.elim fun _ z => z.elim fun _ z => z.2).elim
  | cont => exact (hs.elim fun _ z => z.elim fun _ z => z.2).elim

theorem okG {x qual : Str} {st : Stmt} {N : List Str} (F : Fun K x qual st f fd) (S : FnScope N ps (defScope st)) (len : ∀ vs G Q E, sp vs G Q E → vs.length = ps.length)
    (hbody : ∀ (cdv : Value) (A : Around) (out : List Env) (t : Shared) (G : Hp) (vs : List V) (Q : VK) (E : XK), A.guards = some [] →
      Room k (A.deeper (envOfC qual (defScope st) t.heap.objs.size f cdv)) → sp vs G Q E →
      ∃ rd, PSs (cxOf CX P w K mg base N qual (defScope st) f cdv A out t G E) (defBody st) rd ∧ rd { nx := fun _ G' => Q .non G', rt := Q } (start N vs) G) :
    FnG P w K mg base CX (k + 1) f fd ps sp := by
  obtain ⟨oc, od, kV, doc, pm, an, cdv, ct, osl, rfl, lk, hcd⟩ := F.ex
  exact ⟨len, fun A hg => runAt_of lk hcd S len fun out t G vs Q E room want => hbody cdv A out t G vs Q E hg room want⟩
end
section
variable {X : Cx} {CX : CXT} {k : Nat} {f : Addr} {fd : FuncData} {ps : List Str} {sp : Sp} {dvs : List V} {ds : List Value} {E : XK} {x : Str} {p pos : Pos} {e : Expr} {es : List Expr} {t : TA}
theorem run_g {pins : List (Addr × Obj)} {σ : L2.St} {G : Hp} {s : Shared} {Q : VK} {us : List Value} {vs : List V} (F : FnG X.prog X.w X.K X.mg X.base CX k f fd ps sp) (gu : X.A.guards = some [])
    (hr : Room k X.A) (hb : Binds X.K fd ps ds) (hd : Vals dvs ds) (hx : Passes CX X E) (I : Inv X pins σ G s) (r : Vals vs us) (h : sp (vs ++ dvs) G Q E) :
    wpAny (model X.prog X.w) X.A (call (.ref f) us) (EP X pins σ Q) X.xe s := by
  have rr := r.append hd
  have count : (us ++ ds).length = ps.length := rr.length ▸ F.len _ _ _ _ h
  refine wpAny_call (codeAny_mono (F.run X.A gu X.stack s G ⟨us, []⟩ (us ++ ds) (vs ++ dvs) Q E hr I.env0 (hb s us I.kIn count) rr h) ?_)
  rintro (e | fl) s' hq
  · exact hx pins σ G s e s' I hq
  · cases fl with
    | ret u => exact I.after hq
    | next => exact hq.elim
    | brk => exact hq.elim
    | cont => exact hq.elim
/-- f(e, ..) -/
theorem pe_callG (F : FnG X.prog X.w X.K X.mg X.base CX k f fd ps sp) (gu : X.A.guards = some []) (hr : Room k X.A) (hg : Gl X x) (hm : X.mg x = some (.ref f)) (hk : PySem.W.keepIn X.K (.ref f) = true)
    (hb : Binds X.K fd ps ds) (hd : Vals dvs ds) (hx : Passes CX X E) (ha : PA X (e :: es) t) (hdb : (x == ("__debug__" : Str)) = false := by decide)
    (he : starEach (e :: es) X.env = (false, eval e X.env) :: starEach es X.env := by rfl) (hpl : (backTo pos (starEach es X.env)).any (·.1) = false := by rfl) :
    PE X (.Call (.Name x p) (e :: es) [] pos) (tCall sp dvs E t) := by
  constructor
  intro pins s σ G Q I h
  refine wpAny_Call_Name_kw (ld_glob I hg hm ?_ hdb)
  refine PySem.W.callWith_K (h₀ := X.base) I.ok.mod.kin hk (thn (ha.run pos pins s σ G _ I h) ?_) he hpl
  rintro us s1 ⟨vs, G1, I1, r, q⟩
  exact ⟨I1.kIn, run_g F gu hr hb hd hx I1 r q⟩
end

/-! ### the law's end -/
theorem law_callG {P : Program} {w : World} {K : PySem.W.Frag} {mg mb : Str → Option Value} {CX : CXT} {k : Nat} {fa a : Addr} {fd : FuncData} {x : Str} {sp : Sp} {t : Shared} {vs : List Value} {ns : List Int}
    (kin : K.In t.heap) (hns : t.heap.Ns mainGlobals mg) (hb : t.heap.Ns builtinsNs mb) (hbb : ∀ x : Str, x ≠ "__name__" → mb x = bootBuiltins x) (hlim : t.heap.NoLimit) (hgen : t.gens = #[])
    (ha : t.heap.get? a = some { cls := .type "list", data := .seq vs.toArray }) (hi : IntsAre vs ns) (hl : ns.length ≤ sizeLine) (room : Room k callerA)
    (F : ∀ base : Heap, K.In base → base.Ns mainGlobals mg → FnG P w K mg base CX k fa fd [x] sp) (hbind : ∀ (s : Shared) (u : Value), BindsTo s fd ⟨[u], []⟩ [(x, u)])
    (hsp : ∀ G : Hp, Only G → SqL K G a (ns.map V.int) → sp [.ref a] G (fun v _ => v = .bl true) fun _ _ _ => False)
    (hCX : ∀ G e s', CX [] G t (fun _ _ _ => False) e s' → False) :
    codeAny (model P w) callerA (.call (.ref fa) ⟨[.ref a], []⟩) (fun r s' => r = .ok (.ret (.bool true)) ∧ OldK t.heap s'.heap ∧ s'.os = t.os ∧ AllBare s'.gens) t := by
  have rel := L2.vals_ints hi
  have count := hi.length
  have none_in : ∀ b : Addr, b ∉ frs ([] : List Env) := fun b h => (by simpa [frs] using h)
  -- G tracks nothing but, perhaps, the script
  have main : ∀ G : Hp, Only G → SqL K G a (ns.map V.int) → HOk P w G t.heap → (∀ b u, G b = some u → b = a ∧ K.lookup a = none) →
      codeAny (model P w) callerA (.call (.ref fa) ⟨[.ref a], []⟩) (fun r s' => r = .ok (.ret (.bool true)) ∧ OldK t.heap s'.heap ∧ s'.os = t.os ∧ AllBare s'.gens) t := by
    intro G only seq hok which
    have plain : ∀ {b : Addr} {m : Str → Option Value}, t.heap.Ns b m → (hidT t.heap G).Ns b m := by
      rintro b m ⟨o, es, ep, e, d, r⟩
      refine ⟨o, es, ep, hidT_get e ?_, d, r⟩
      cases q : G b with
      | none => rfl
      | some u =>
        obtain ⟨rfl, _⟩ := which b u q
        rw [ha] at e
        injection e with e
        subst e
        cases d
    have kinB : K.In (hidT t.heap G) := fun b o e => hidT_get (kin b o e) (by
      cases q : G b with
      | none => rfl
      | some u =>
        obtain ⟨rfl, z⟩ := which b u q
        rw [z] at e
        cases e)
    have modB : Mod K mg (hidT t.heap G) := ⟨kinB, plain hns, ⟨mb, plain hb, hbb⟩, by
      obtain ⟨mc, h1, h2⟩ := hlim
      exact ⟨mc, plain h1, h2⟩⟩
    have start0 : Env0 P w K mg (hidT t.heap G) callerA [] t G :=
      { frames := rfl, mod := modB, bs := fun b o e => of_hidT e, bsz := Nat.le_of_eq (hidT_size _ _), funs := trivial, frf := fun b h => absurd h (none_in b), hok := hok, bare := .of_eq hgen }
    refine codeAny_mono ((F _ kinB (plain hns)).run callerA rfl [] t G ⟨[.ref a], []⟩ [.ref a] [.ref a] _ _ room start0 (hbind t (.ref a)) (.cons rfl .nil) (hsp G only seq)) ?_
    rintro (e | fl) s' h
    · exact (hCX G e s' h).elim
    · cases fl with
      | next => exact h.elim
      | brk => exact h.elim
      | cont => exact h.elim
      | ret u =>
        obtain ⟨v, G', hos, bare, un, hok', ru, rfl⟩ := h
        have ru' : u = Value.bool true := ru
        subst ru'
        refine ⟨rfl, OldK.of_keep fun b o e => ?_, hos, bare⟩
        cases q : G b with
        | none => exact un.keep b o e q (none_in b) (by simp)
        | some u =>
          obtain z | ⟨ob, xs, z⟩ := only b
          · rw [q] at z
            cases z
          · have e1 := (hok b _ z).1
            have e2 := (hok' b _ (un.frzs b ob _ z)).1
            rw [e] at e1
            injection e1 with e1
            rw [e1]
            exact e2
  have size : (ns.map V.int).length ≤ sizeLine := by
    rw [List.length_map]
    exact hl
  cases hk : K.lookup a with
  | some o =>
    have e := kin a o hk
    rw [ha] at e
    injection e with e
    subst e
    refine main (fun _ => none) (fun _ => Or.inl rfl) (Or.inr ⟨_, vs.toArray, _, hk, rfl, rfl, rfl, ?_, ?_⟩) (fun b u z => nomatch z) (fun b u z => nomatch z)
    · rw [List.size_toArray, count]
      exact hl
    · rw [List.toList_toArray]
      exact rel
  | none =>
    have at_a : ∀ {b : Addr} {u : HO}, (if b = a then some (HO.frz { cls := .type "list", data := .seq vs.toArray } (.lst (ns.map V.int))) else none) = some u →
        b = a ∧ u = HO.frz { cls := .type "list", data := .seq vs.toArray } (.lst (ns.map V.int)) := by
      intro b u z
      split at z
      · rename_i hb
        injection z with z
        exact ⟨hb, z.symm⟩
      · cases z
    refine main (fun b => if b = a then some (.frz { cls := .type "list", data := .seq vs.toArray } (.lst (ns.map V.int))) else none) ?_ (Or.inl (Or.inr ⟨_, if_pos rfl⟩)) ?_ (fun b u z => ⟨(at_a z).1, hk⟩)
    · intro b
      by_cases hb : b = a
      · exact Or.inr ⟨_, _, if_pos hb⟩
      · exact Or.inl (if_neg hb)
    · intro b u z
      obtain ⟨rfl, rfl⟩ := at_a z
      exact ⟨ha, size, vs, _, rel, ha⟩

theorem walk_ofG {l : PySem.W.OpenLaw} {n k : Nat} {q : Program} {loose : List Str} {XP : (Str → Option Value) → Heap → Prop} {YP : World → Heap → Prop} {d : DefRec} {K : Params → PySem.W.Frag} {CX : World → CXT} {sp : World → Sp} {x : Str}
    (hn : l.most = some n) (hn2 : n ≤ sizeLine) (hdf : d.params.defaults = []) (room : Room k callerA)
    (hY : ∀ (w : World) (h : Heap), YP w h → (K w.params).In h)
    (F : ∀ (w : World) (mg : Str → Option Value) (fa : Addr) (h : Heap), (K w.params).In h → h.Ns mainGlobals mg → mg d.name = some (.ref fa) →
      ∃ fd : FuncData, (∀ (s : Shared) (u : Value), BindsTo s fd ⟨[u], []⟩ [(x, u)]) ∧
        ∀ base : Heap, (K w.params).In base → base.Ns mainGlobals mg → FnG l.prog w (K w.params) mg base (CX w) k fa fd [x] (sp w))
    (hsp : ∀ (w : World) (G : Hp) (a : Addr) (ns : List Int), ns.length ≤ n → Only G → SqL (K w.params) G a (ns.map V.int) → sp w [.ref a] G (fun v _ => v = .bl true) fun _ _ _ => False)
    (hCX : ∀ (w : World) (G : Hp) (s : Shared) (e : Value) (s' : Shared), CX w [] G s (fun _ _ _ => False) e s' → False) :
    PySem.W.WalkO q loose XP YP l.row.toRowW d [] (fun f vs => PySem.call f vs) := by
  refine Att.attach_call hn hdf ?_
  intro w s0 s1 mg mb fa o pm cd doc a vs ns Gr Y ho hd hcd hmg hobj hints hlen hgen
  obtain ⟨fd, hb, hF⟩ := F w mg fa _ (hY w _ Y) Gr.T.g hmg
  exact law_callG (hY w _ Y) Gr.T.g Gr.T.b Gr.T.builtins Gr.T.nolimit hgen hobj hints (Nat.le_trans hlen hn2) room hF hb (fun G only seq => hsp w G a ns hlen only seq) fun G e s' => hCX w G s1 e s'
end Qh
set_option Elab.async false
set_option linter.all false
set_option maxRecDepth 100000
set_option maxHeartbeats 4000000
/-! An error that is caught and then kept under a name of the def: the object itself is tracked. -/
namespace Qh
open PySem PySem.Spec PyProof.Rows L2

/-- at a: an error object of the class cls, its own dict at d -/
def exk (cls : Value) (d : Option Addr) (a : Addr) : HO := .ext fun h => ∃ (oe : Obj) (vs : Array Value), h.get? a = some oe ∧ oe.cls = cls ∧ oe.dict = d ∧ oe.data = .fields vs

theorem exk_ok {P : Program} {w : World} {G : Hp} {h : Heap} {a : Addr} {oe : Obj} {vs : Array Value} (e : h.get? a = some oe) (d : oe.data = .fields vs) : ObjOk P w G h a (exk oe.cls oe.dict a) :=
  ⟨⟨oe, vs, e, rfl, rfl, d⟩, ⟨oe, e⟩, fun h1 h2 ⟨o, v, e1, r⟩ k => ⟨o, v, k o e1, r⟩⟩

section
variable {X : Cx} {pins : List (Addr × Obj)} {σ : L2.St} {G : Hp} {s : Shared}
theorem Inv.kept_err {a : Addr} {oe : Obj} {vs : Array Value} (I : Inv X pins σ G s) (hg : s.heap.get? a = some oe) (hd : oe.data = .fields vs) (na : G a = none) (nL : a ≠ X.env.locals)
    (n0 : X.s_0.heap.get? a = none) (np : ∀ p ∈ X.pn ++ pins, p.1 ≠ a) : Inv X pins σ (upd G a (exk oe.cls oe.dict a)) s := by
  have other : ∀ {b : Addr} {o : HO}, G b = some o → upd G a (exk oe.cls oe.dict a) b = some o := fun {b o} e => by
    rw [upd_ne (ne_of_none e na)]
    exact e
  have old : ∀ {b : Addr} {o : Obj}, X.s_0.heap.get? b = some o → b ≠ a := fun {b o} e z => by
    rw [z, n0] at e
    cases e
  refine ⟨I.ok, I.os, I.bare, ⟨I.base.keep, I.base.slot, fun b o e n x => ?_, I.base.there, fun b xs e => other (I.base.tups b xs e), fun b o u e => other (I.base.frzs b o u e), fun b ps e => ?_⟩, I.loc, I.cell, ?_, fun x c e => ?_, fun p hp => ?_,
    HOk.laidN I.hok (fun _ _ z => z) na (exk_ok hg hd), I.len⟩
  · rw [upd_ne (old e)]
    exact I.base.free b o e n x
  · obtain ⟨more, q⟩ := I.base.tbls b ps e
    exact ⟨more, other q⟩
  · rw [upd_ne nL.symm]
    exact I.free
  · have ne : c ≠ a := fun z => by
      obtain ⟨v, o, e1, e2⟩ := I.cell x c e
      rw [z, hg] at e1
      injection e1 with e1
      rw [← e1, hd] at e2
      cases e2
    rw [upd_ne ne]
    exact I.freeC x c e
  · obtain ⟨h1, h2, h3⟩ := I.pin p hp
    refine ⟨h1, ?_, h3⟩
    rw [upd_ne (np p hp)]
    exact h2
end

/-- what the clause 'except x as n: c = n' wishes of an error of the body: n has slot i, c slot j -/
def wHeld (K : PySem.W.Frag) (c : Value) (i j : Nat) (Wout : WX) (D : Ends) : WX := fun cls d σ G =>
  ∃ b, PySem.W.exmOne K cls c = some b ∧ (b = true → ∀ a, G a = none → D.nx (((σ.set i (some (.ref a))).set j (some (.ref a))).set i none) (upd G a (exk cls d a))) ∧ (b = false → Wout cls d σ G)

section
variable {X : Cx} {x n y : Str} {c : Value} {i j : Nat} {body : List Stmt} {np p1 p2 p3 pos pos' : Pos} {tb : WX → TS} {Wout : WX}
theorem ps_try_held (hs : X.stack = X.env :: X.outer) (hf : X.env.frame = some X.env.locals) (hex : X.ex = []) (hN : X.N.Nodup) (hi : X.N[i]? = some n) (hln : X.env.kindOf n = some .local)
    (hj : X.N[j]? = some y) (hly : X.env.scope.names.lookup y = some .local) (hdb : (n == ("__debug__" : Str)) = false) (hdc : (n == ("__classdict__" : Str)) = false)
    (hsw : swapsWith (.Name n p2) (some (.Name y p1)) p3.line X.env = pure false)
    (hc : Names X x c) (tk : Takes X Wout)
    (hb : ∀ (W : WX) (pn : List (Addr × Obj)) (xe : Value → Shared → Prop), Takes (X.tr pn xe) W → PassesOwn (model X.prog X.w) X.A X.env xe → PSs (X.tr pn xe) body (tb W)) :
    PS X (.Try body [.ExceptHandler (some (.Name x np)) (some n) [.Assign [.Name y p1] (.Name n p2) p3] pos'] [] [] pos) (fun D σ G => tb (wHeld X.K c i j Wout D) D σ G) := by
  constructor
  intro pins s σ G D I h
  have ok := I.ok
  have frames : X.A.frames = some (X.env :: X.outer) := by rw [ok.frames, hs]
  have hloc : Loc X.env.scope n := Or.inl hln
  have hlen : i < σ.length := by
    rw [I.len]
    exact (List.getElem?_eq_some_iff.mp hi).1
  refine wpAny_Try_except ?_
  refine wpAny_mono ((hb (wHeld X.K c i j Wout D) (X.pn ++ pins) (fun e s1 => wpAny (model X.prog X.w) X.A (noteFrame e X.env) (fun _ s2 => wpAny (model X.prog X.w) X.A (setFlight e none) (fun _ s3 =>
    wpAny (model X.prog X.w) X.A (handleBy e X.env [.ExceptHandler (some (.Name x np)) (some n) [.Assign [.Name y p1] (.Name n p2) p3] pos']) (SP X pins D) X.xe s3) X.xe s2) X.xe s1) ?_ PassesOwn.looking).run [] s σ G D (I.toTry _) h) ?_ (fun _ _ z => z)
  · rintro u s' ⟨a, B, sI, pins', σ', G', cls, d, rfl, J', nb, up, sky, na, os, ag, b, hb1, hyes, hno⟩
    have J : Inv X pins σ' G' sI := J'.ofTry ok
    have sky' : Sky B (X.env :: X.outer) a (Zc cls d) X.env.locals s'.heap := hs ▸ sky
    have Bno : B.get? a = none := by
      rcases sky with z | z | z
      · exact z.2.1
      · exact z.2.1
      · exact z.2.1
    show wpAny (model X.prog X.w) X.A (noteFrame (.ref a) X.env) _ _ _
    refine Sky.land Zc.steady frames hf sky' fun h3 fl3 up3 => ?_
    have J3 : Inv X pins σ' G' { s' with heap := h3 } := J.landed nb fl3.1 (up.trans up3) os ag
    obtain ⟨oe3, vs3, he3, hz3, hd3⟩ := fl3.there
    have outside : a ∉ frs (X.env :: X.outer) := fun hm => by
      obtain ⟨_, o', e', z⟩ := fl3.2.2.1.mem hm
      rw [he3] at e'
      injection e' with e'
      subst e'
      exact z _ hd3
    have nL : a ≠ X.env.locals := fun z => outside (List.mem_filterMap.mpr ⟨X.env, List.mem_cons_self, by rw [hf, z]⟩)
    have nF : a ∉ X.fs := fun hm => by
      obtain ⟨e, he, q⟩ := List.mem_filterMap.mp hm
      exact outside (List.mem_filterMap.mpr ⟨e, List.mem_cons_of_mem _ he, q⟩)
    have fresh : ∀ {b : Addr} {o : Obj}, sI.heap.get? b = some o → b ∉ frs X.stack → b ≠ a := fun {b o} e hm z => by
      have q := nb b o e hm
      rw [z, Bno] at q
      cases q
    have n0 : X.s_0.heap.get? a = none := by
      cases q : X.s_0.heap.get? a with
      | none => rfl
      | some o =>
        obtain ⟨o', e'⟩ := J.base.there a o q (by rw [hex]; simp)
        exact absurd rfl (fresh e' (hs ▸ outside))
    have npin : ∀ p ∈ X.pn ++ pins, p.1 ≠ a := fun p hp => by
      obtain ⟨q1, _, q3, q4, _⟩ := J.pin p hp
      refine fresh q1 fun hm => ?_
      rw [hs] at hm
      obtain ⟨e, he, q⟩ := List.mem_filterMap.mp hm
      rcases List.mem_cons.mp he with rfl | he
      · rw [hf] at q
        injection q with q
        exact q3 q.symm
      · exact q4 (List.mem_filterMap.mpr ⟨e, he, q⟩)
    have S3 := J3.suite he3 hd3 na nL nF
    refine wpAny_handleBy_cons (codeAny_handlers_test ?_) (by intro q; cases q)
    have LT : PySem.W.Looks (model X.prog X.w) h3 (typeOf (.ref a)) cls := fun A Q E s k q => wpAny_typeOf_ref (k _ _ he3) (by rw [hz3.1]; exact q)
    have LM := PySem.W.exm_one (M := model X.prog X.w) (J3.kIn) LT hb1
    have test : ∀ {Q : Value → Shared → Prop} {E : Value → Shared → Prop}, Q c { s' with heap := h3 } → wpAny (model X.prog X.w) (X.A.mark (some (.ref a))) (eval (.Name x np) X.env) Q E { s' with heap := h3 } := fun {Q E} q => by
      obtain ⟨hg, hdbg, hm | ⟨hm, hv, hnn⟩⟩ := hc
      · exact ld_glob (X := X.suite a ((a, oe3) :: (X.pn ++ pins))) S3 hg hm q hdbg
      · exact ld_blt (X := X.suite a ((a, oe3) :: (X.pn ++ pins))) S3 hg hm hv q hnn hdbg
    refine test (LM.here ?_)
    cases b with
    | true =>
      refine codeAny_handlers_suite_as ?_
      refine HandSPX.lands_againZ fl3 fun h4 fl4 up4 => ?_
      have J4 : Inv X pins σ' G' { s' with heap := h4 } := J.landed nb fl4.1 ((up.trans up3).trans up4) os ag
      obtain ⟨oe4, vs4, he4, hz4, hd4⟩ := fl4.there
      have S4 := J4.suite he4 hd4 na nL nF
      have hlen' : i < σ'.length := by
        rw [J.len]
        exact (List.getElem?_eq_some_iff.mp hi).1
      refine store_ok (X := X.suite a ((a, oe4) :: (X.pn ++ pins))) (v := .ref a) S4 hN hi hloc rfl (fun s5 S5 => ?_) (.inr hln)
      have asg : PSs (X.suite a ((a, oe4) :: (X.pn ++ pins))) [.Assign [.Name y p1] (.Name n p2) p3] (tAsg (tVar i) (gName j)) :=
        pss_one (ps_set hN hj (Or.inl hly) (pe_var hi (Or.inl hln) hdb hdc) hsw (.inr hly))
      refine wpAny_mono (asg.run [] s5 _ G' { nx := fun σ6 G6 => σ6 = (σ'.set i (some (.ref a))).set j (some (.ref a)) ∧ G6 = G', rt := fun _ _ => False } S5 ⟨.ref a, List.getElem?_set_self hlen', rfl, rfl⟩) ?_ (fun _ _ z => z.elim)
      intro f s6 hsp
      cases f with
      | next =>
        obtain ⟨σ6, G6, S6, rfl, rfl⟩ := hsp
        have pinned := S6.pin (a, oe4) (List.mem_append_left _ List.mem_cons_self)
        have J6 := Qh.Inv.kept_err (S6.unsuite ok) pinned.1 hd4 na nL n0 npin
        rw [hz4.1, hz4.2] at J6
        exact gone_ok J6 hN hi hln fun s7 J7 => ⟨_, _, J7, hyes rfl a na⟩
      | brk => exact (hsp.elim fun _ z => z.elim fun _ z => z.2).elim
      | cont => exact (hsp.elim fun _ z => z.elim fun _ z => z.2).elim
      | ret u => exact (hsp.elim fun _ z => z.elim fun _ z => z.elim fun _ z => z.2.2).elim
    | false =>
      show wpAny _ X.A (handleBy (.ref a) X.env []) _ _ _
      refine wpAny_handleBy_nil ?_
      obtain ⟨k1, k2, k3, oe, vs, T, oT, ts', he, hz, hd, h1, hr⟩ := id fl3
      unfold PySem.passOn
      refine wpAny_bind (wpAny_field he hd h1 ?_)
      rw [if_neg (show ¬ ((Value.ref T == Value.none) = true) from by simp)]
      have fin : wpAny (model X.prog X.w) X.A (setFlight (.ref a) X.env.frame) (fun _ s4 => wpAny (model X.prog X.w) X.A (throw (.ref a) : Sem Flow) (SP X pins D) X.xe s4) X.xe { s' with heap := h3 } := by
        rw [hf]
        refine HandSPX.setFlight_upZ fl3 fun h4 hh4 up4 => wpAny_throw (tk _ _ ?_)
        exact ⟨a, B, sI, pins, σ', G', cls, d, rfl, J, nb, (up.trans up3).trans up4, .inr (.inr (by rw [hs]; exact hh4)), na, os, ag, hno rfl⟩
      first
        | exact wpAny_bind (wpAny_pure (wpAny_bind fin))
        | exact wpAny_bind fin
  · intro f s1 hsp
    cases f with
    | next =>
      obtain ⟨σ1, G1, J1, q⟩ := hsp
      exact wpAny_execs_nil ⟨σ1, G1, J1.ofTry ok, q⟩
    | brk =>
      obtain ⟨σ1, G1, J1, q⟩ := hsp
      exact ⟨σ1, G1, J1.ofTry ok, q⟩
    | cont =>
      obtain ⟨σ1, G1, J1, q⟩ := hsp
      exact ⟨σ1, G1, J1.ofTry ok, q⟩
    | ret u =>
      obtain ⟨v, σ1, G1, J1, r, q⟩ := hsp
      exact ⟨v, σ1, G1, J1.ofTry ok, r, q⟩
end
/-! ### the kept error: its fields, isinstance -/
/-- e.f -/
def tErrF (K : PySem.W.Frag) (f : Str) (te : TE) : TE := fun σ G Q => te σ G fun x G1 => ∃ (a C d : Addr) (fs : List (Str × V)) (v : V), x = .ref a ∧ G1 a = some (exk (.ref C) (some d) a) ∧ G1 d = some (.xd fs) ∧
  XfC K C ∧ PySem.W.findIn K (.ref C) f = some none ∧ fs.lookup f = some v ∧ Q v G1
theorem pe_errF {X : Cx} {e : Expr} {te : TE} {pos : Pos} {f : Str} (he : PE X e te) (hb : attributeBase e f X.env (eval e X.env) = eval e X.env := by rfl) : PE X (.Attribute e f pos) (tErrF X.K f te) := by
  constructor
  intro pins s σ G Q I h
  refine attr_of hb (thn (he.run pins s σ G _ I h) ?_)
  rintro u s1 ⟨x, G1, I1, rx, a, C, dd, fs, v, rfl, ek, ed, T, hno, l, q⟩
  obtain rfl : u = Value.ref a := rx
  obtain ⟨⟨oe, vs, ha, hcls, hdict, hdata⟩, _⟩ := I1.hok a _ ek
  obtain ⟨mA, hns, hr⟩ := I1.hok dd _ ed
  obtain ⟨od, ho, hl⟩ := lookIn_ns hns
  obtain ⟨u, hu, ru⟩ := RelO.some_of (v := v) (o := mA f) (by rw [← l]; exact hr f)
  have J : PySem.W.InstAt s1.heap a oe C (some od) := ⟨ha, hcls, by unfold PySem.W.notCls; rw [hdata] <;> rfl, by rw [hdict]; exact ho⟩
  exact HandSPX.exc_get I1.kIn J T.ga T.gg T.exC (PySem.W.findObj_own T.hdC hno rfl (by rw [hl, hu])) (handed_of ru) ⟨v, G1, I1.tok _, ru, q⟩

/-- isinstance(e, c), e a kept error of the class at D -/
def rErrIs (K : PySem.W.Frag) : List V → Hp → VK → Prop := fun xs G Q => ∃ (a D d : Addr) (fs : List (Str × V)) (c : V) (cv : Value) (b : Bool), xs = [.ref a, c] ∧ G a = some (exk (.ref D) (some d) a) ∧ G d = some (.xd fs) ∧ ExcC K D ∧ (∀ u, RelV c u → u = cv) ∧ PySem.W.kitOne K (.ref D) cv = some b ∧ Q (.bl b) G
theorem call_errIs {X : Cx} : CallR X (.builtin "isinstance") (rErrIs X.K) := by
  rintro pins s σ G xs us Q I r ⟨a, D, d, fs, c, cv, b, rfl, ek, ed, C, hcv, e, q⟩
  obtain ⟨u1, u2, rfl, r1, r2⟩ := vals2 r
  obtain rfl : u1 = Value.ref a := r1
  obtain rfl := hcv _ r2
  obtain ⟨⟨oe, vs, ha, hcls, hdict, hdata⟩, _⟩ := I.hok a _ ek
  obtain ⟨mA, hns, hr⟩ := I.hok d _ ed
  obtain ⟨od, ho, hl⟩ := lookIn_ns hns
  have J : PySem.W.InstAt s.heap a oe D (some od) := ⟨ha, hcls, by unfold PySem.W.notCls; rw [hdata] <;> rfl, by rw [hdict]; exact ho⟩
  have hcl : (PySem.W.clsIn X.K D).isSome = true := by
    obtain ⟨cd, hc, _⟩ := PySem.W.any_some C.hd
    rw [hc]
    rfl
  exact PySem.W.kia_one (PySem.W.kitx_exc hcl C.hg C.hk C.hs C.ha C.hn C.ht C.hm) I.kIn J e (fun z => nomatch z) fun tk => ⟨.bl b, G, I.kept (t' := tk) fun _ _ z => z, rfl, q⟩
end Qh
set_option Elab.async false
set_option linter.all false
set_option maxRecDepth 100000
set_option maxHeartbeats 4000000
/-! Own defs by name: what stands behind the top, how they are called. -/
namespace Qh
open PySem PySem.Spec PyProof.Rows L2

/-- the def x of the module keeps sp -/
structure Ok (P : Program) (w : World) (K : PySem.W.Frag) (mg : Str → Option Value) (base : Heap) (x : Str) (pa : Arguments) (ps : List Str) (k : Nat) (sp : Sp) : Prop where
  ex : ∃ (f : Addr) (body : List Stmt) (scope : Scope) (kV doc pm : Value) (an : Option Addr) (cdv ct : Value), mg x = some (.ref f) ∧ PySem.W.keepIn K (.ref f) = true ∧
    (∀ us : List Value, us.length = ps.length → bindArgs (PySem.W.fnOf x x pa body scope .none kV doc pm an cdv ct) ⟨us, []⟩ = pure (ps.zip us)) ∧
    FnOk P w K mg base (L2.CX P w) k f (PySem.W.fnOf x x pa body scope .none kV doc pm an cdv ct) ps sp
/-- .. where no repr is under way -/
structure OkG (P : Program) (w : World) (K : PySem.W.Frag) (mg : Str → Option Value) (base : Heap) (x : Str) (pa : Arguments) (ps : List Str) (k : Nat) (sp : Sp) : Prop where
  ex : ∃ (f : Addr) (body : List Stmt) (scope : Scope) (kV doc pm : Value) (an : Option Addr) (cdv ct : Value), mg x = some (.ref f) ∧ PySem.W.keepIn K (.ref f) = true ∧
    (∀ us : List Value, us.length = ps.length → bindArgs (PySem.W.fnOf x x pa body scope .none kV doc pm an cdv ct) ⟨us, []⟩ = pure (ps.zip us)) ∧
    FnG P w K mg base (L2.CX P w) k f (PySem.W.fnOf x x pa body scope .none kV doc pm an cdv ct) ps sp

section
variable {X : Cx} {W : WX} {k : Nat} {ps : List Str} {sp : Sp} {pa : Arguments} {x : Str} {p pos : Pos} {e : Expr} {es : List Expr} {t : TA}
theorem bindsOf {K : PySem.W.Frag} {x : Str} {pa : Arguments} {body : List Stmt} {scope : Scope} {kV doc pm : Value} {an : Option Addr} {cdv ct : Value} {ps : List Str}
    (h : ∀ us : List Value, us.length = ps.length → bindArgs (PySem.W.fnOf x x pa body scope .none kV doc pm an cdv ct) ⟨us, []⟩ = pure (ps.zip us)) : Binds K (PySem.W.fnOf x x pa body scope .none kV doc pm an cdv ct) ps [] := .all h
/-- f(e, ..), f a def of the module -/
theorem pe_own (F : Ok X.prog X.w X.K X.mg X.base x pa ps k sp) (hr : Room k X.A) (tk : Takes X W) (ha : PA X (e :: es) t) (hg : Gl X x := by rfl) (hdb : (x == ("__debug__" : Str)) = false := by decide)
    (he : starEach (e :: es) X.env = (false, eval e X.env) :: starEach es X.env := by rfl) (hpl : (backTo pos (starEach es X.env)).any (·.1) = false := by rfl) :
    PE X (.Call (.Name x p) (e :: es) [] pos) (tCallS sp (WE W) t) := by
  obtain ⟨f, body, scope, kV, doc, pm, an, cdv, ct, hm, hk, hb, F⟩ := F.ex
  exact pe_callS F hr hg hm hk (bindsOf hb) (fun σ => passAt tk σ) ha hdb he hpl
/-- f() -/
theorem pe_own0 (F : Ok X.prog X.w X.K X.mg X.base x pa [] k sp) (hr : Room k X.A) (hg : Gl X x := by rfl) (hdb : (x == ("__debug__" : Str)) = false := by decide) :
    PE X (.Call (.Name x p) [] [] pos) (tCall sp [] E0 tNil) := by
  obtain ⟨f, body, scope, kV, doc, pm, an, cdv, ct, hm, hk, hb, F⟩ := F.ex
  exact pe_call0 F hr hg hm hk (bindsOf hb) .nil passL hdb
theorem pe_ownG (F : OkG X.prog X.w X.K X.mg X.base x pa ps k sp) (gu : X.A.guards = some []) (hr : Room k X.A) (ha : PA X (e :: es) t) (hg : Gl X x := by rfl) (hdb : (x == ("__debug__" : Str)) = false := by decide)
    (he : starEach (e :: es) X.env = (false, eval e X.env) :: starEach es X.env := by rfl) (hpl : (backTo pos (starEach es X.env)).any (·.1) = false := by rfl) :
    PE X (.Call (.Name x p) (e :: es) [] pos) (tCall sp [] E0 t) := by
  obtain ⟨f, body, scope, kV, doc, pm, an, cdv, ct, hm, hk, hb, F⟩ := F.ex
  exact pe_callG F gu hr hg hm hk (bindsOf hb) .nil passL ha hdb he hpl

/-! ### keywords alone, where errors are wished for at the caller's slots -/
end

/-! ### a def as the top has left it -/
structure DefIn (K : PySem.W.Frag) (mg : Str → Option Value) (x : Str) (st : Stmt) : Prop where
  ex : ∃ (f : Addr) (fd : FuncData), Fun K x x st f fd ∧ mg x = some (.ref f)
section
variable {P : Program} {w : World} {K : PySem.W.Frag} {mg : Str → Option Value} {base : Heap} {x : Str} {st : Stmt} {N ps : List Str} {k : Nat} {sp : Sp}
/-- its promise, by its body -/
theorem DefIn.ok (D : DefIn K mg x st) (S : FnScope N ps (defScope st)) (len : ∀ vs G Q E, sp vs G Q E → vs.length = ps.length)
    (hbind : ∀ (kV doc pm : Value) (an : Option Addr) (cdv ct : Value) (us : List Value), us.length = ps.length → bindArgs (PySem.W.fnOf x x (defArgs st) (defBody st) (defScope st) .none kV doc pm an cdv ct) ⟨us, []⟩ = pure (ps.zip us))
    (hbody : ∀ (f : Addr) (cdv : Value) (A : Around) (out : List Env) (t : Shared) (G : Hp) (vs : List V) (Q : VK) (E : XK), Room k (A.deeper (envOfC x (defScope st) t.heap.objs.size f cdv)) → sp vs G Q E →
      ∃ rd, PSs (cxOf (L2.CX P w) P w K mg base N x (defScope st) f cdv A out t G E) (defBody st) rd ∧ rd { nx := fun _ G' => Q .non G', rt := Q } (start N vs) G) :
    Ok P w K mg base x (defArgs st) ps (k + 1) sp := by
  obtain ⟨f, fd, F, hm⟩ := D.ex
  have G : FnOk P w K mg base (L2.CX P w) (k + 1) f fd ps sp := F.okX S len fun cdv A out t G vs Q E room want => hbody f cdv A out t G vs Q E room want
  obtain ⟨oc, od, kV, doc, pm, an, cdv, ct, osl, rfl, lk, hcd⟩ := F.ex
  exact ⟨⟨f, _, _, kV, doc, pm, an, cdv, ct, hm, F.kp, fun us hl => hbind kV doc pm an cdv ct us hl, G⟩⟩
theorem DefIn.okG (D : DefIn K mg x st) (S : FnScope N ps (defScope st)) (len : ∀ vs G Q E, sp vs G Q E → vs.length = ps.length)
    (hbind : ∀ (kV doc pm : Value) (an : Option Addr) (cdv ct : Value) (us : List Value), us.length = ps.length → bindArgs (PySem.W.fnOf x x (defArgs st) (defBody st) (defScope st) .none kV doc pm an cdv ct) ⟨us, []⟩ = pure (ps.zip us))
    (hbody : ∀ (f : Addr) (cdv : Value) (A : Around) (out : List Env) (t : Shared) (G : Hp) (vs : List V) (Q : VK) (E : XK), A.guards = some [] → Room k (A.deeper (envOfC x (defScope st) t.heap.objs.size f cdv)) → sp vs G Q E →
      ∃ rd, PSs (cxOf (L2.CX P w) P w K mg base N x (defScope st) f cdv A out t G E) (defBody st) rd ∧ rd { nx := fun _ G' => Q .non G', rt := Q } (start N vs) G) :
    OkG P w K mg base x (defArgs st) ps (k + 1) sp := by
  obtain ⟨f, fd, F, hm⟩ := D.ex
  have G : FnG P w K mg base (L2.CX P w) (k + 1) f fd ps sp := Qh.okG F S len fun cdv A out t G vs Q E gu room want => hbody f cdv A out t G vs Q E gu room want
  obtain ⟨oc, od, kV, doc, pm, an, cdv, ct, osl, rfl, lk, hcd⟩ := F.ex
  exact ⟨⟨f, _, _, kV, doc, pm, an, cdv, ct, hm, F.kp, fun us hl => hbind kV doc pm an cdv ct us hl, G⟩⟩
end
end Qh
set_option Elab.async false
set_option linter.all false
set_option maxRecDepth 100000
set_option maxHeartbeats 4000000
/-! What every law of this table brings: built-in names, repr of data, the pen. -/
namespace Qh
open PySem PySem.Spec PyProof.Rows L2

/-- the built-in names that the module leaves alone -/
structure Blt (mg : Str → Option Value) : Prop where
  n_len : mg "len" = none
  n_int : mg "int" = none
  n_abs : mg "abs" = none
  n_list : mg "list" = none
  n_tuple : mg "tuple" = none
  n_range : mg "range" = none
  n_repr : mg "repr" = none
  n_all : mg "all" = none
  n_any : mg "any" = none
  n_isinstance : mg "isinstance" = none
  n_str : mg "str" = none
  n_bool : mg "bool" = none
  n_dict : mg "dict" = none
  n_set : mg "set" = none
  n_sorted : mg "sorted" = none
  n_enumerate : mg "enumerate" = none
  n_zip : mg "zip" = none
  n_max : mg "max" = none
  n_sum : mg "sum" = none
  n_min : mg "min" = none
  n_reversed : mg "reversed" = none

theorem bt_len : bootBuiltins "len" = some (.builtin "len") := by decide +kernel
theorem bt_abs : bootBuiltins "abs" = some (.builtin "abs") := by decide +kernel
theorem bt_int : bootBuiltins "int" = some (.type "int") := by decide +kernel
theorem bt_list : bootBuiltins "list" = some (.type "list") := by decide +kernel
theorem bt_tuple : bootBuiltins "tuple" = some (.type "tuple") := by decide +kernel
theorem bt_str : bootBuiltins "str" = some (.type "str") := by decide +kernel
theorem bt_dict : bootBuiltins "dict" = some (.type "dict") := by decide +kernel
theorem bt_repr : bootBuiltins "repr" = some (.builtin "repr") := by decide +kernel
theorem bt_isinstance : bootBuiltins "isinstance" = some (.builtin "isinstance") := by decide +kernel
theorem bt_sorted : bootBuiltins "sorted" = some (.builtin "sorted") := by decide +kernel
/-! ### repr of data, where no repr is under way -/
section
variable {X : Cx}
def rRepr (K : PySem.W.Frag) : List V → Hp → VK → Prop := fun xs G Q => ∃ (a : Addr) (d : PyData), xs = [.ref a] ∧ Dp K G (.ref a) d ∧ d.showable = true ∧ d.hasDict = false ∧ d.depth ≤ 40 ∧ d.shown.length ≤ sizeLine ∧ Q (.str d.shown) G
theorem call_repr (gu : X.A.guards = some []) (hu : X.A.units + 64 < cLine) : CallR X (.builtin "repr") (rRepr X.K) := by
  rintro pins s σ G xs us Q I r ⟨a, d, rfl, hd, hs, hn, hk, hz, q⟩
  obtain ⟨u, rfl, ru⟩ := vals1 r
  obtain rfl : u = Value.ref a := ru
  obtain ⟨as, rd⟩ := Dp.reads I d _ _ hd rfl
  exact repr_of_reads' rd hs (PyData.noDict_hsm hn) gu (by omega) (fun _ _ z => z) (fun h' u tk k => ⟨.str d.shown, G, I.kept k, ⟨u, rfl⟩, q⟩) hz
end

/-! ### the pen: the script's cells, how many are read, what is left of a great cell -/
def Pen (G : Hp) (p l : Addr) (c : Int) : Prop :=
  ∃ (n g : Int) (ns : List Int), G p = some (.lst [.ref l, .int n, .int g]) ∧ G l = some (.lst (ns.map V.int)) ∧ l ≠ p ∧ 0 ≤ n ∧ n ≤ c ∧ 0 ≤ g
/-- all that was tracked but p is as it was -/
def Kp (p : Addr) (G G' : Hp) : Prop := ∀ b o, b ≠ p → G b = some o → G' b = some o
theorem Kp.refl (p : Addr) (G : Hp) : Kp p G G := fun _ _ _ h => h
theorem Kp.trans {p : Addr} {G G1 G2 : Hp} (a : Kp p G G1) (b : Kp p G1 G2) : Kp p G G2 := fun x o n h => b x o n (a x o n h)
theorem Kp.new {p q : Addr} {G : Hp} {o : HO} (h : G q = none) : Kp p G (upd G q o) := fun b u _ e => by
  rw [upd_ne (ne_of_none e h)]
  exact e
theorem Kp.self {p : Addr} {G : Hp} {o : HO} : Kp p G (upd G p o) := fun b u n e => by
  rw [upd_ne n]
  exact e
theorem Kp.same {p : Addr} {G G' : Hp} (h : Same G G') : Kp p G G' := fun b o _ e => h b o e
theorem Same.new {q : Addr} {G : Hp} {o : HO} (h : G q = none) : Same G (upd G q o) := fun b u e => by
  rw [upd_ne (ne_of_none e h)]
  exact e
/-- an object that was not there before may change -/
theorem Kp.fresh {p q : Addr} {G G' : Hp} {o : HO} (k : Kp p G G') (h : G q = none) : Kp p G (upd G' q o) := fun b u n e => by
  rw [upd_ne (ne_of_none e h)]
  exact k b u n e
theorem Kp.free {p q : Addr} {G G' : Hp} (k : Kp p G G') (n : q ≠ p) (h : G' q = none) : G q = none := by
  cases e : G q with
  | none => rfl
  | some o =>
    rw [k q o n e] at h
    cases h
theorem Pen.mono {G : Hp} {p l : Addr} {c c' : Int} (P : Pen G p l c) (h : c ≤ c') : Pen G p l c' := by
  obtain ⟨n, g, ns, h1, h2, h3, h4, h5, h6⟩ := P
  exact ⟨n, g, ns, h1, h2, h3, h4, Int.le_trans h5 h, h6⟩
/-- an object that is neither the pen nor its cells may change -/
theorem Pen.upd {G : Hp} {p l q : Addr} {c : Int} {o : HO} (P : Pen G p l c) (hp : q ≠ p) (hl : q ≠ l) : Pen (upd G q o) p l c := by
  obtain ⟨n, g, ns, h1, h2, h3⟩ := P
  refine ⟨n, g, ns, ?_, ?_, h3⟩
  · rw [upd_ne hp.symm]
    exact h1
  · rw [upd_ne hl.symm]
    exact h2
theorem Pen.same {G G' : Hp} {p l : Addr} {c : Int} (P : Pen G p l c) (k : Same G G') : Pen G' p l c := by
  obtain ⟨n, g, ns, h1, h2, h3⟩ := P
  exact ⟨n, g, ns, k _ _ h1, k _ _ h2, h3⟩
theorem Pen.ne {G : Hp} {p l q : Addr} {c : Int} (P : Pen G p l c) (h : G q = none) : q ≠ p := fun e => by
  obtain ⟨n, g, ns, h1, _⟩ := P
  rw [e, h1] at h
  cases h
theorem Pen.nel {G : Hp} {p l q : Addr} {c : Int} (P : Pen G p l c) (h : G q = none) : q ≠ l := fun e => by
  obtain ⟨n, g, ns, _, h1, _⟩ := P
  rw [e, h1] at h
  cases h
theorem Pen.new {G : Hp} {p l q : Addr} {c : Int} {o : HO} (P : Pen G p l c) (h : G q = none) : Pen (L2.upd G q o) p l c := P.upd (P.ne h) (P.nel h)
/-- a number below m is drawn -/
def spDraw : Sp := fun vs G Q _ => ∃ (p l : Addr) (c m : Int), vs = [.ref p, .int m] ∧ Pen G p l c ∧ c ≤ 1000000 ∧ 0 < m ∧ m ≤ 1000000 ∧ ∀ (d : Int) (G' : Hp), 0 ≤ d → d < m → Kp p G G' → Pen G' p l (c + 1) → Q (.int d) G'
/-- one of some things is drawn -/
def spPick (K : PySem.W.Frag) : Sp := fun vs G Q _ => ∃ (p l a : Addr) (c : Int) (xs : List V), vs = [.ref p, .ref a] ∧ Pen G p l c ∧ c ≤ 1000000 ∧ a ≠ p ∧ SqL K G a xs ∧ 0 < xs.length ∧ xs.length ≤ 1000000 ∧
  ∀ (x : V) (G' : Hp), x ∈ xs → Kp p G G' → Pen G' p l (c + 1) → Q x G'
/-- the pen is made -/
def spPen (K : PySem.W.Frag) : Sp := fun vs G Q _ => ∃ (a : Addr) (ns : List Int), vs = [.ref a] ∧ SqL K G a (ns.map V.int) ∧ ∀ (p l : Addr) (G' : Hp), G p = none → Same G G' → Pen G' p l 0 → Q (.ref p) G'
theorem Kp.seq {K : PySem.W.Frag} {p a : Addr} {G G' : Hp} {xs : List V} (k : Kp p G G') (n : a ≠ p) (h : SqL K G a xs) : SqL K G' a xs := by
  rcases h with (h | ⟨o, h⟩) | h
  · exact .inl (.inl (k _ _ n h))
  · exact .inl (.inr ⟨o, k _ _ n h⟩)
  · exact .inr h

/-! ### data -/
theorem dp_ints {K : PySem.W.Frag} {G : Hp} : ∀ ns : List Int, DpAll K G (ns.map V.int) (ns.map PyData.int)
  | [] => .nil
  | a :: r => .cons (.int a) (dp_ints r)
theorem lay_ints : ∀ ns : List Int, PyData.canLayAll0 (ns.map PyData.int) = true ∧ PyData.depthAll (ns.map PyData.int) = 0
  | [] => ⟨rfl, rfl⟩
  | a :: r => ⟨by show (true && PyData.canLayAll0 (r.map PyData.int)) = true; rw [(lay_ints r).1]; rfl, by show max 0 (PyData.depthAll (r.map PyData.int)) = 0; rw [(lay_ints r).2]; rfl⟩
/-- signs that are signs -/
def txt (x : Str) : Bool := x.cps.all (· < 0x110000)
theorem shaped_ints (ns : List Int) : SeqAt.shaped (.list (ns.map PyData.int)) = true := by
  show (PyData.canLayAll0 (ns.map PyData.int) && decide (PyData.depthAll (ns.map PyData.int) + 1 ≤ 64)) = true
  rw [(lay_ints ns).1, (lay_ints ns).2]
  rfl
theorem eqv_nil_r (ds : List PyData) : PyData.eqv (.list ds) (.list []) = decide (ds = []) := by
  cases ds with
  | nil => rfl
  | cons a r => rfl
theorem mod_lt (a b : Int) (h : 0 < b) : 0 ≤ a % b ∧ a % b < b := ⟨Int.emod_nonneg _ (by omega), Int.emod_lt_of_pos _ h⟩
theorem mod_at {xs : List V} (a : Int) (h : 0 < xs.length) : ∃ v, atI xs (a % (xs.length : Int)) = some v ∧ v ∈ xs := by
  have hm := mod_lt a (xs.length : Int) (by omega)
  have hl : (a % (xs.length : Int)).toNat < xs.length := by omega
  refine ⟨xs[(a % (xs.length : Int)).toNat], ?_, List.getElem_mem hl⟩
  have h2 : xs[(a % (xs.length : Int)).toNat]? = some xs[(a % (xs.length : Int)).toNat] := List.getElem?_eq_getElem hl
  have h3 := atI_nat h2
  rwa [Int.toNat_of_nonneg hm.1] at h3
theorem at_lt {xs : List V} (d : Int) (h0 : 0 ≤ d) (h : d < xs.length) : ∃ v, atI xs d = some v ∧ xs[d.toNat]? = some v ∧ v ∈ xs := by
  have hl : d.toNat < xs.length := by omega
  refine ⟨xs[d.toNat], ?_, List.getElem?_eq_getElem hl, List.getElem_mem hl⟩
  have h3 := atI_nat (List.getElem?_eq_getElem hl)
  rwa [Int.toNat_of_nonneg h0] at h3
theorem mem_ints {ns : List Int} {v : V} (h : v ∈ ns.map V.int) : ∃ i, v = V.int i := by
  obtain ⟨i, _, rfl⟩ := List.mem_map.mp h
  exact ⟨i, rfl⟩

theorem pow18 : (10 : Int) ^ (18 : Int).toNat = 1000000000000000000 := by decide +kernel
theorem draw_bound (x n A B b : Int) (hx : 0 ≤ x ∧ x < 2147483648) (hn : 0 ≤ n ∧ n ≤ 1000000) (hA : 0 ≤ A ∧ A ≤ 100000) (hB : 0 ≤ B ∧ B ≤ 100000) (hb : 0 ≤ b ∧ b ≤ 100000) : (x * (2 * n + b) + A * n * n + B).natAbs < 2 ^ 64 := by
  have h1 : x * (2 * n + b) ≤ 2147483648 * 2100000 := Int.mul_le_mul (by omega) (by omega) (by omega) (by omega)
  have h2 : 0 ≤ x * (2 * n + b) := Int.mul_nonneg hx.1 (by omega)
  have h3 : A * n ≤ 100000 * 1000000 := Int.mul_le_mul hA.2 hn.2 hn.1 (by omega)
  have h4 : 0 ≤ A * n := Int.mul_nonneg hA.1 hn.1
  have h5 : A * n * n ≤ 100000 * 1000000 * 1000000 := Int.mul_le_mul h3 hn.2 hn.1 (by omega)
  have h6 : 0 ≤ A * n * n := Int.mul_nonneg h4 hn.1
  omega
theorem great_nonneg (x : Int) (b : Bool) (h : 1000000000000000000 ≤ x) : 0 ≤ 2 * (x - 1000000000000000000) + (if b = true then (1 : Int) else 0) := by
  have hb : (0 : Int) ≤ (if b = true then (1 : Int) else 0) := by cases b <;> decide
  omega

/-! ### words -/
def ltr (c : Nat) : Bool := decide (97 ≤ c) && decide (c ≤ 122)
/-- 1 to m letters -/
def lettersS (x : Str) (m : Int) : Bool := (decide (1 ≤ (x.length : Int)) && decide ((x.length : Int) ≤ m)) && x.cps.toList.all ltr
def lettersV (v : V) (m : Int) : Bool := match v with
  | .str x => lettersS x m
  | _ => false
def wordS (x : Str) : Bool := lettersS x 10
def wordV (v : V) : Bool := lettersV v 10
/-- a value whose type is known: a text of a small size, or something else -/
def Known (K : PySem.W.Frag) (G : Hp) (v : V) : Prop := (∃ x, v = .str x ∧ x.length ≤ 1000000) ∨ ((∀ x, v ≠ .str x) ∧ ∃ t, TyX K G v t ∧ PySem.W.kitOne K t (.type "str") = some false)
def spLetters (K : PySem.W.Frag) : Sp := fun vs G Q _ => ∃ (v : V) (m : Int), vs = [v, .int m] ∧ Known K G v ∧ ∀ G', Same G G' → Q (.bl (lettersV v m)) G'
def spIsWord (K : PySem.W.Frag) : Sp := fun vs G Q _ => ∃ (v : V), vs = [v] ∧ Known K G v ∧ ∀ G', Same G G' → Q (.bl (wordV v)) G'
theorem lettersV_other {v : V} {m : Int} (h : ∀ x, v ≠ .str x) : lettersV v m = false := by
  cases v with
  | str x => exact absurd rfl (h x)
  | _ => rfl
theorem big_line {n : Nat} (h : n ≤ 1000000) : n ≤ sizeLine := Nat.le_trans h (by decide)
theorem big_line' {n : Nat} (h : n ≤ 1000000) : n < sizeLine := Nat.lt_of_le_of_lt h (by decide)
theorem Same.fresh {q : Addr} {G G' : Hp} {o : HO} (k : Same G G') (h : G q = none) : Same G (upd G' q o) := fun b u e => by
  rw [upd_ne (ne_of_none e h)]
  exact k b u e
theorem take_get {α : Type} {l : List α} {i : Nat} {a : α} (h : l[i]? = some a) : l.take (i + 1) = l.take i ++ [a] := by
  obtain ⟨h1, h2⟩ := List.getElem?_eq_some_iff.mp h
  rw [List.take_succ, h]
  rfl
end Qh
set_option Elab.async false
set_option linter.all false
set_option maxRecDepth 100000
set_option maxHeartbeats 4000000
namespace K04
open PySem PySem.Spec PyProof.Rows L2 Qh
def top (i : Nat) : Stmt := PySem.Challenge.pw_quotehome_k04_swaps.main.body.getD i (.Pass ⟨0, 0, 0, 0⟩)
abbrev sPen : Stmt := top 14
abbrev sDraw : Stmt := top 15
abbrev sPick : Stmt := top 16
section
variable {P : Program} {w : World} {K : PySem.W.Frag} {mg : Str → Option Value} {base : Heap}
theorem scPen : FnScope ["_law_script"] ["_law_script"] (defScope sPen) := ⟨rfl, rfl, rfl, by decide +kernel, rfl, by decide +kernel, by decide +kernel⟩
theorem ok_pen (D : DefIn K mg "_law_pen" sPen) (B : Blt mg) : Ok P w K mg base "_law_pen" (defArgs sPen) ["_law_script"] 1 (spPen K) := by
  refine D.ok scPen (fun vs G Q E h => ?_) (fun _ _ _ _ _ _ us hl => match us, hl with | [_], _ => rfl) (fun f cdv A out t G vs Q E hr h => ?_)
  · obtain ⟨a, ns, rfl, _⟩ := h
    rfl
  · obtain ⟨a, ns, rfl, hS, k⟩ := h
    refine ⟨_, pss_one (ps_ret (pe_lst (pa_cons (pe_callTy call_list_of (by rfl) B.n_list bt_list (pa_cons (pe_slice sl_list (pv 0) po_none (po_some pe_int)) pa_nil)) (pa_cons pe_int (pa_cons pe_int pa_nil))))), ?_⟩
    refine ⟨_, rfl, 63, rfl, a, ns.map V.int, rfl, hS, fun q hq => ?_⟩
    refine ⟨q, _, rfl, .inl (SqL.of upd_same), fun l hl => ?_⟩
    refine ⟨by show 3 ≤ sizeLine; decide, fun p hp => ?_⟩
    have lq : l ≠ q := fun e => by rw [e, upd_same] at hl; cases hl
    have pl : p ≠ l := fun e => by rw [e, upd_same] at hp; cases hp
    have pq : p ≠ q := fun e => by rw [e, upd_ne lq.symm, upd_same] at hp; cases hp
    have nl : G l = none := by rw [upd_ne lq] at hl; exact hl
    have np : G p = none := by rw [upd_ne pl, upd_ne pq] at hp; exact hp
    have hcut : cutV (ns.map V.int) none (some 63) = (ns.take 63).map V.int := by
      unfold cutV
      rw [HT.sIx_none, show (some (63 : Int)) = some ((63 : Nat) : Int) from rfl, HT.sIx_nat, List.drop_zero, Nat.sub_zero, List.map_take]
      by_cases h : 63 ≤ (ns.map V.int).length
      · rw [Nat.min_eq_left h]
      · rw [Nat.min_eq_right (by omega), List.take_of_length_le (Nat.le_refl _), List.take_of_length_le (by omega)]
    refine k p l _ np (fun b o e => ?_) ⟨0, 0, ns.take 63, upd_same, ?_, pl.symm, Int.le_refl _, Int.le_refl _, Int.le_refl _⟩
    · rw [upd_ne (ne_of_none e np), upd_ne (ne_of_none e nl), upd_ne (ne_of_none e hq)]
      exact e
    · rw [upd_ne pl.symm, upd_same, hcut]
theorem scDraw : FnScope ["_law_pen_here", "_law_many", "_law_digit", "_law_at", "_law_cell", "_law_great", "_law_mixed"] ["_law_pen_here", "_law_many"] (defScope sDraw) := ⟨rfl, rfl, rfl, by decide +kernel, rfl, by decide +kernel, by decide +kernel⟩

theorem ok_draw (D : DefIn K mg "_law_draw" sDraw) (B : Blt mg) : Ok P w K mg base "_law_draw" (defArgs sDraw) ["_law_pen_here", "_law_many"] 1 spDraw := by
  refine D.ok scDraw (fun vs G Q E h => ?_) (fun _ _ _ _ _ _ us hl => match us, hl with | [_, _], _ => rfl) (fun f cdv A out t G vs Q E hr h => ?_)
  · obtain ⟨p, l, c, m, rfl, _⟩ := h
    rfl
  · obtain ⟨p, l, c, m, rfl, ⟨n, g, ns, hp, hl, lp, n0, nc, g0⟩, hc, m0, mm, k⟩ := h
    have hu64 := hr.units
    refine ⟨_, (pss_cons (ps_if (pt_cmpR op_gt (pe_ix ix_list (pv 0) pe_int (fun _ _ => rfl)) pe_int (nomark _)) (pss_cons (ps_set (i := 2) scDraw.nd rfl (by first | exact Or.inl rfl | exact Or.inr rfl) (pe_op op_mod (pe_callTy call_int1 (by rfl) B.n_int bt_int (pa_cons (pe_ix ix_list (pv 0) pe_int (fun _ _ => rfl)) pa_nil)) (pv 1)))
    (pss_cons (ps_asg (pe_op op_fdiv (pe_callTy call_int1 (by rfl) B.n_int bt_int (pa_cons (pe_ix ix_list (pv 0) pe_int (fun _ _ => rfl)) pa_nil)) (pv 1)) (pg_sub (pv 0) pe_int set_list))
    (pss_one (ps_ret (pv 2))))) pss_nil)
    (pss_cons (ps_set (i := 3) scDraw.nd rfl (by first | exact Or.inl rfl | exact Or.inr rfl) (pe_ix ix_list (pv 0) pe_int (fun _ _ => rfl)))
    (pss_cons (ps_asg (pe_op op_add (pv 3) pe_int) (pg_sub (pv 0) pe_int set_list))
    (pss_cons (ps_set (i := 4) scDraw.nd rfl (by first | exact Or.inl rfl | exact Or.inr rfl) (pe_op op_add (pe_op op_mul pe_int (pv 3)) pe_int))
    (pss_cons (ps_if (pt_cmpR (op_neD hu64) (pe_ix ix_list (pv 0) pe_int (fun _ _ => rfl)) (pe_lst pa_nil) (nomark _)) (pss_one (ps_set (i := 4) scDraw.nd rfl (by first | exact Or.inl rfl | exact Or.inr rfl) (pe_ix ix_list (pe_ix ix_list (pv 0) pe_int (fun _ _ => rfl)) (pe_op op_mod (pe_callTy call_int1 (by rfl) B.n_int bt_int (pa_cons (pv 3) pa_nil)) (pe_callB call_len (by rfl) B.n_len bt_len (pa_cons (pe_ix ix_list (pv 0) pe_int (fun _ _ => rfl)) pa_nil))) (fun _ _ => rfl)))) pss_nil)
    (pss_cons (ps_if (PW.pt (pw_and (pt_cmpR op_lt (pv 3) (pe_callB call_len (by rfl) B.n_len bt_len (pa_cons (pe_ix ix_list (pv 0) pe_int (fun _ _ => rfl)) pa_nil)) (nomark _)) (pw_and1 (pt_cmpR op_ge (pe_callB call_abs (by rfl) B.n_abs bt_abs (pa_cons (pv 4) pa_nil)) (pe_op op_pow pe_int pe_int) (nomark _))))) (pss_cons (ps_set (i := 5) scDraw.nd rfl (by first | exact Or.inl rfl | exact Or.inr rfl) (pe_op op_add (pe_op op_mul pe_int (pe_op op_sub (pe_callB call_abs (by rfl) B.n_abs bt_abs (pa_cons (pv 4) pa_nil)) (pe_op op_pow pe_int pe_int))) (pe_callTy call_int1 (by rfl) B.n_int bt_int (pa_cons (pe_cmpR op_lt (pv 4) pe_int (nomark _)) pa_nil))))
    (pss_cons (ps_asg (pe_op op_fdiv (pe_callTy call_int1 (by rfl) B.n_int bt_int (pa_cons (pv 5) pa_nil)) (pv 1)) (pg_sub (pv 0) pe_int set_list))
    (pss_one (ps_ret (pe_op op_mod (pe_callTy call_int1 (by rfl) B.n_int bt_int (pa_cons (pv 5) pa_nil)) (pv 1)))))) pss_nil)
    (pss_cons (ps_set (i := 6) scDraw.nd rfl (by first | exact Or.inl rfl | exact Or.inr rfl) (pe_op op_mod (pe_callTy call_int1 (by rfl) B.n_int bt_int (pa_cons (pe_op op_pow (pe_op op_add (pe_op op_add (pe_op op_mod (pe_callTy call_int1 (by rfl) B.n_int bt_int (pa_cons (pv 4) pa_nil)) pe_int) (pe_op op_mul pe_int (pv 3))) pe_int) pe_int) pa_nil)) pe_int))
    (pss_cons (ps_set (i := 6) scDraw.nd rfl (by first | exact Or.inl rfl | exact Or.inr rfl) (pe_op op_mod (pe_callTy call_int1 (by rfl) B.n_int bt_int (pa_cons (pe_op op_pow (pe_op op_add (pe_op op_add (pe_op op_mul (pv 6) (pe_op op_add (pe_op op_mul pe_int (pv 3)) pe_int)) (pe_op op_mul (pe_op op_mul pe_int (pv 3)) (pv 3))) pe_int) pe_int) pa_nil)) pe_int))
    (pss_one (ps_ret (pe_op op_mod (pe_callTy call_int1 (by rfl) B.n_int bt_int (pa_cons (pe_op op_fdiv (pv 6) pe_int) pa_nil)) (pv 1)))))))))))), ?_⟩
    refine ⟨_, rfl, p, _, _, _, rfl, rfl, SqL.of hp, rfl, _, _, rfl, rfl, _, rfl, ?_⟩
    refine ite2 (fun hg => ?_) (fun hg => ?_)
    · have hg := of_decide_eq_true hg
      refine ⟨_, rfl, p, _, _, _, rfl, rfl, SqL.of hp, rfl, .inl ⟨_, rfl, _, rfl, _, _, rfl, rfl, m0, ?_⟩⟩
      refine ⟨_, rfl, p, _, _, _, rfl, rfl, SqL.of hp, rfl, .inl ⟨_, rfl, _, rfl, _, _, rfl, rfl, ⟨m0, by omega⟩, _, rfl, p, _, _, 2, rfl, rfl, hp, rfl, ?_⟩⟩
      refine ⟨_, rfl, ?_⟩
      refine k (g % m) _ (mod_lt g m m0).1 (mod_lt g m m0).2 Kp.self ⟨n, g / m, ns, upd_same, ?_, lp, n0, by omega, Int.ediv_nonneg g0 (by omega)⟩
      rw [upd_ne lp]
      exact hl
    · -- at = pen[1]; pen[1] = at + 1; cell = ..
      refine ⟨_, rfl, p, _, _, _, rfl, rfl, SqL.of hp, rfl, ?_⟩
      refine ⟨_, rfl, _, _, rfl, rfl, _, rfl, p, _, _, 1, rfl, rfl, hp, rfl, ?_⟩
      have hp1 : (upd G p (.lst [.ref l, .int (n + 1), .int g])) p = some (.lst [.ref l, .int (n + 1), .int g]) := upd_same
      have hl1 : (upd G p (.lst [.ref l, .int (n + 1), .int g])) l = some (.lst (ns.map V.int)) := by
        rw [upd_ne lp]
        exact hl
      refine ⟨_, rfl, _, _, rfl, rfl, .inl ⟨by decide, by decide⟩, _, _, rfl, rfl, ?_⟩
      -- if pen[0] != []
      refine ⟨_, rfl, p, _, _, _, rfl, rfl, SqL.of hp1, rfl, by show 0 ≤ sizeLine; decide, fun q hq => ?_⟩
      have lq : l ≠ q := ne_of_none hl1 hq
      have pq : p ≠ q := ne_of_none hp1 hq
      have hl2 : (upd (upd G p (.lst [.ref l, .int (n + 1), .int g])) q (.lst [])) l = some (.lst (ns.map V.int)) := by
        rw [upd_ne lq]
        exact hl1
      have hp2 : (upd (upd G p (.lst [.ref l, .int (n + 1), .int g])) q (.lst [])) p = some (.lst [.ref l, .int (n + 1), .int g]) := by
        rw [upd_ne pq]
        exact hp1
      have nq : G q = none := by
        rw [upd_ne pq.symm] at hq
        exact hq
      have kp2 : Kp p G (upd (upd G p (.lst [.ref l, .int (n + 1), .int g])) q (.lst [])) := Kp.fresh Kp.self nq
      have hq2 : (upd (upd G p (.lst [.ref l, .int (n + 1), .int g])) q (.lst [])) q = some (.lst []) := upd_same
      refine ⟨.list (ns.map PyData.int), .list [], .lst (SqL.of hl2) (dp_ints ns), .lst (SqL.of hq2) .nil, shaped_ints ns, rfl, _, rfl, ?_⟩
      rw [eqv_nil_r]
      refine ite2 (fun hne => ?yes) (fun hne => ?no)
      case' yes =>
        have hz : 0 < (ns.map V.int).length := by
          cases ns with
          | nil => exact absurd hne (by decide)
          | cons a r => exact Nat.succ_pos _
        obtain ⟨v, hv, hm⟩ := mod_at (xs := ns.map V.int) n hz
        obtain ⟨cell, rfl⟩ := mem_ints hm
        refine ⟨_, rfl, p, _, _, _, rfl, rfl, SqL.of hp2, rfl, _, rfl, .inl ⟨_, rfl, ?_⟩⟩
        refine ⟨_, rfl, p, _, _, _, rfl, rfl, SqL.of hp2, rfl, .ref l, _, rfl, .inl ⟨_, SqL.of hl2, rfl⟩, _, _, rfl, rfl, by omega, l, _, _, _, rfl, rfl, SqL.of hl2, hv, ?_⟩
      all_goals
        refine ⟨_, rfl, _, rfl, p, _, _, _, rfl, rfl, SqL.of hp2, rfl, .ref l, _, rfl, .inl ⟨_, SqL.of hl2, rfl⟩, _, _, rfl, rfl, _, rfl, ?_⟩
        refine ite2 (fun _ => ?_) (fun _ => ?_)
        case' _ =>
          refine ⟨_, rfl, _, rfl, _, _, rfl, rfl, ⟨by decide, by decide, by decide⟩, _, _, rfl, rfl, _, rfl, ?_⟩
          rw [pow18]
          refine ite2 (fun hbig => ?_) (fun hbig => ?_)
          case _ =>
            have hbig := of_decide_eq_true hbig
            refine ⟨_, rfl, _, rfl, _, _, rfl, rfl, ⟨by decide, by decide, by decide⟩, _, _, rfl, rfl, _, _, rfl, rfl, .inl ⟨by decide, by decide⟩, _, rfl, _, _, rfl, rfl, .inr ⟨_, rfl, _, _, rfl, rfl, ?_⟩⟩
            refine ⟨_, rfl, .inl ⟨_, rfl, _, rfl, _, _, rfl, rfl, ⟨m0, by omega⟩, _, rfl, p, _, _, 2, rfl, rfl, hp2, rfl, ?_⟩⟩
            refine ⟨_, rfl, .inl ⟨_, rfl, _, rfl, _, _, rfl, rfl, m0, ?_⟩⟩
            refine k _ _ (mod_lt _ m m0).1 (mod_lt _ m m0).2 (Kp.trans kp2 Kp.self) ⟨n + 1, _, ns, upd_same, ?_, lp, by omega, by omega, Int.ediv_nonneg ?_ (by omega)⟩
            · rw [upd_ne lp]
              exact hl2
            · rw [pow18]
              exact great_nonneg _ _ hbig
        all_goals
          refine ⟨_, rfl, .inl ⟨_, rfl, _, _, rfl, rfl, by show (0 : Int) < _; decide, _, rfl, _, _, rfl, rfl, .inl ⟨by decide, by decide⟩, _, _, rfl, rfl, _, _, rfl, rfl, _, _, rfl, rfl, ⟨by decide, by decide, ?_⟩, .inl ⟨_, rfl, _, _, rfl, rfl, by show (0 : Int) < _; decide, ?_⟩⟩⟩
          · omega
          refine ⟨_, rfl, _, rfl, _, _, rfl, rfl, .inl ⟨by decide, by decide⟩, _, _, rfl, rfl, _, _, rfl, rfl, .inr ⟨by omega, by omega⟩, ?_⟩
          refine ⟨_, rfl, _, _, rfl, rfl, .inl ⟨by decide, by decide⟩, _, rfl, _, _, rfl, rfl, .inr ⟨by omega, by omega⟩, _, _, rfl, rfl, _, _, rfl, rfl, _, _, rfl, rfl, ⟨by decide, by decide, ?_⟩, .inl ⟨_, rfl, _, _, rfl, rfl, by show (0 : Int) < _; decide, ?_⟩⟩
          · exact draw_bound _ _ _ _ _ ⟨(mod_lt _ _ (by decide)).1, Int.lt_trans (mod_lt _ _ (by decide)).2 (by decide)⟩ ⟨n0, by omega⟩ (by decide) (by decide) (by decide)
          refine ⟨_, rfl, _, _, rfl, rfl, ⟨by decide, by decide⟩, .inl ⟨_, rfl, _, rfl, _, _, rfl, rfl, m0, ?_⟩⟩
          exact k _ _ (mod_lt _ m m0).1 (mod_lt _ m m0).2 kp2 ⟨n + 1, g, ns, hp2, hl2, lp, by omega, by omega, g0⟩
theorem scPick : FnScope ["_law_pen_here", "_law_some"] ["_law_pen_here", "_law_some"] (defScope sPick) := ⟨rfl, rfl, rfl, by decide +kernel, rfl, by decide +kernel, by decide +kernel⟩
theorem ok_pick (D : DefIn K mg "_law_pick" sPick) (B : Blt mg) (F__law_draw : Ok P w K mg base "_law_draw" (defArgs sDraw) ["_law_pen_here", "_law_many"] 1 spDraw) : Ok P w K mg base "_law_pick" (defArgs sPick) ["_law_pen_here", "_law_some"] 2 (spPick K) := by
  refine D.ok scPick (fun vs G Q E h => ?_) (fun _ _ _ _ _ _ us hl => match us, hl with | [_, _], _ => rfl) (fun f cdv A out t G vs Q E hr h => ?_)
  · obtain ⟨p, l, a, c, xs, rfl, _⟩ := h
    rfl
  · obtain ⟨p, l, a, c, xs, rfl, hP, hc, ha, hS, h0, h1, k⟩ := h
    refine ⟨_, pss_one (ps_ret (pe_ix ix_list (pv 1) (pe_own F__law_draw (hr.mono (by decide)) takes0 (pa_cons (pv 0) (pa_cons (pe_callB call_len (by rfl) B.n_len bt_len (pa_cons (pv 1) pa_nil)) pa_nil))) (fun _ _ => rfl))), ?_⟩
    refine ⟨_, rfl, _, rfl, _, rfl, .ref a, _, rfl, .inl ⟨xs, hS, rfl⟩, p, l, c, (xs.length : Int), rfl, hP, hc, by omega, by omega, fun d G' d0 dm kp P' => ?_⟩
    obtain ⟨v, hv, _, hm⟩ := at_lt d d0 dm
    exact ⟨a, xs, d, v, rfl, rfl, kp.seq ha hS, hv, k v G' hm kp P'⟩
end
end K04
set_option Elab.async false
set_option linter.all false
set_option maxRecDepth 100000
set_option maxHeartbeats 4000000
/-! Texts of letters by isascii, isalpha, islower. -/
namespace Qh
open PySem PySem.Spec PyProof.Rows L2
theorem uni128 : ∀ c : Fin 128, (Unicode.isAlpha c.val && !(Unicode.isUpper c.val || Unicode.isTitle c.val)) = ltr c.val ∧ (ltr c.val = true → Unicode.isLower c.val = true) := by decide +kernel
theorem uni_all (l : List Nat) (h : l.all (fun c => decide (c < 128)) = true) : (l.all Unicode.isAlpha && !l.any fun c => Unicode.isUpper c || Unicode.isTitle c) = l.all ltr := by
  induction l with
  | nil => rfl
  | cons a r ih =>
    rw [List.all_cons, Bool.and_eq_true] at h
    have ha := of_decide_eq_true h.1
    have h1 := (uni128 ⟨a, ha⟩).1
    have ih := ih h.2
    simp only [List.all_cons, List.any_cons, Bool.not_or]
    rw [← ih, ← h1]
    simp only [Bool.not_or]
    cases Unicode.isAlpha a <;> cases Unicode.isUpper a <;> cases Unicode.isTitle a <;> simp
theorem ltr_ascii (c : Nat) (h : ltr c = true) : c < 128 := by
  unfold ltr at h
  simp at h
  omega
theorem letters_now (x : Str) : (if Txt.isascii x = true then (if Txt.isalpha x = true then Txt.islower x else false) else false) = (decide (1 ≤ (x.length : Int)) && x.cps.toList.all ltr) := by
  have e1 : Txt.isascii x = x.cps.toList.all (fun c => decide (c < 128)) := by
    unfold Txt.isascii
    rw [← Array.all_toList]
  have e2 : Txt.isalpha x = (decide (x.length > 0) && x.cps.toList.all Unicode.isAlpha) := by
    unfold Txt.isalpha
    rw [← Array.all_toList]
  have e3 : Txt.islower x = (x.cps.toList.any Unicode.isLower && !x.cps.toList.any fun c => Unicode.isUpper c || Unicode.isTitle c) := by
    unfold Txt.islower
    rw [← Array.any_toList, ← Array.any_toList]
  have el : x.length = x.cps.toList.length := by simp [Str.length]
  rw [e1, e2, e3, el]
  generalize x.cps.toList = l
  cases ha : l.all (fun c => decide (c < 128)) with
  | false =>
    have : l.all ltr = false := by
      cases hl : l.all ltr with
      | false => rfl
      | true =>
        rw [List.all_eq_true] at hl
        rw [← ha]
        symm
        rw [List.all_eq_true]
        exact fun c hc => decide_eq_true (ltr_ascii c (hl c hc))
    rw [this]
    simp
  | true =>
    have h := uni_all l ha
    cases l with
    | nil => rfl
    | cons a r =>
      have hlow : (a :: r).all ltr = true → (a :: r).any Unicode.isLower = true := fun hh => by
        rw [List.all_eq_true] at hh
        rw [List.any_eq_true]
        have h1 := hh a (List.mem_cons_self)
        exact ⟨a, List.mem_cons_self, (uni128 ⟨a, ltr_ascii a h1⟩).2 h1⟩
      rw [← h] at hlow ⊢
      rw [if_pos rfl]
      have p1 : decide ((a :: r).length > 0) = true := decide_eq_true (Nat.succ_pos _)
      have p2 : decide (1 ≤ (((a :: r).length : Nat) : Int)) = true := by
        refine decide_eq_true ?_
        have := Nat.succ_pos r.length
        rw [List.length_cons]
        omega
      rw [p1, p2]
      revert hlow
      generalize (a :: r).all Unicode.isAlpha = p
      generalize (a :: r).any Unicode.isLower = q
      generalize ((a :: r).any fun c => Unicode.isUpper c || Unicode.isTitle c) = s
      intro hlow
      cases p <;> cases q <;> cases s <;> simp at hlow ⊢
end Qh
set_option Elab.async false
set_option linter.all false
set_option maxRecDepth 100000
set_option maxHeartbeats 4000000
namespace K04
open PySem PySem.Spec PyProof.Rows L2 Qh
abbrev sLetters : Stmt := top 5
abbrev sIsWord : Stmt := top 6
section
variable {P : Program} {w : World} {K : PySem.W.Frag} {mg : Str → Option Value} {base : Heap}
theorem scLetters : FnScope ["value", "most"] ["value", "most"] (defScope sLetters) := ⟨rfl, rfl, rfl, by decide +kernel, rfl, by decide +kernel, by decide +kernel⟩
theorem ok_letters (D : DefIn K mg "is_letters" sLetters) (B : Blt mg) : Ok P w K mg base "is_letters" (defArgs sLetters) ["value", "most"] 1 (spLetters K) := by
  refine D.ok scLetters (fun vs G Q E h => ?_) (fun _ _ _ _ _ _ us hl => match us, hl with | [_, _], _ => rfl) (fun f cdv A out t G vs Q E hr h => ?_)
  · obtain ⟨v, m, rfl, _⟩ := h
    rfl
  · obtain ⟨v, m, rfl, hv, k⟩ := h
    refine ⟨_, (pss_cons (ps_if (PW.pt (pw_or (pt_not (pt_val (pe_callB call_isi (by rfl) B.n_isinstance bt_isinstance (pa_cons (pv 0) (pa_cons (pe_bltn (v := .ty "str") (by rfl) B.n_str bt_str rfl) pa_nil))))) (pw_or1 (pt_cmpR op_gt (pe_callB call_len (by rfl) B.n_len bt_len (pa_cons (pv 0) pa_nil)) (pv 1) (nomark _))))) (pss_one (ps_ret pe_bl)) pss_nil)
      (pss_one (ps_ret (pe_and (pe_bm0 PySem.F.plainAttrs_str PySem.F.slot_str_isascii PySem.F.type_str_isascii mt_isascii (pv 0)) (pe_and (pe_bm0 PySem.F.plainAttrs_str PySem.F.slot_str_isalpha PySem.F.type_str_isalpha mt_isalpha (pv 0)) (pe_one (pe_bm0 PySem.F.plainAttrs_str PySem.F.slot_str_islower PySem.F.type_str_islower mt_islower (pv 0)))))))), ?_⟩
    rcases hv with ⟨x, rfl, hx⟩ | ⟨hno, ty, hty, hk⟩
    · refine ⟨_, rfl, _, _, _, _, _, rfl, .ty _, .base (.str x), kit_ty (r := true) (by decide +kernel), _, rfl, ?_⟩
      refine iteF ?_
      refine ⟨_, rfl, .str x, x.length, rfl, ⟨big_line hx, rfl⟩, _, rfl, _, _, rfl, rfl, _, rfl, ?_⟩
      have hk := k G (Same.refl G)
      have e : lettersV (.str x) m = (decide ((x.length : Int) ≤ m) && (decide (1 ≤ (x.length : Int)) && x.cps.toList.all ltr)) := by
        show lettersS x m = _
        unfold lettersS
        cases decide (1 ≤ (x.length : Int)) <;> cases decide ((x.length : Int) ≤ m) <;> rfl
      rw [e, ← letters_now] at hk
      refine ite2 (fun h1 => ?_) (fun h1 => ?_)
      · have h1 : decide ((x.length : Int) ≤ m) = false := by
          have := of_decide_eq_true h1
          exact decide_eq_false (by omega)
        rw [h1] at hk
        exact hk
      · have h1 : decide ((x.length : Int) ≤ m) = true := by
          have : ¬ ((x.length : Int) > m) := fun z => h1 (decide_eq_true z)
          exact decide_eq_true (by omega)
        rw [h1, Bool.true_and] at hk
        refine ⟨_, rfl, rfl, x, rfl, rfl, trivial, _, rfl, ?_⟩
        refine ite2 (fun h2 => ?_) (fun h2 => ?_)
        · rw [if_pos h2] at hk
          refine ⟨_, rfl, rfl, x, rfl, rfl, trivial, _, rfl, ?_⟩
          refine ite2 (fun h3 => ?_) (fun h3 => ?_)
          · rw [if_pos h3] at hk
            exact ⟨_, rfl, rfl, x, rfl, rfl, trivial, hk⟩
          · rw [if_neg h3] at hk
            exact hk
        · rw [if_neg h2] at hk
          exact hk
    · refine ⟨_, rfl, _, _, _, _, _, rfl, .ty _, hty, hk, _, rfl, ?_⟩
      refine iteT ?_
      have h := k G (Same.refl G)
      rw [lettersV_other hno] at h
      exact h
theorem scIsWord : FnScope ["value"] ["value"] (defScope sIsWord) := ⟨rfl, rfl, rfl, by decide +kernel, rfl, by decide +kernel, by decide +kernel⟩
theorem ok_isWord (D : DefIn K mg "is_word" sIsWord) (hM : ∃ t, mg "MOST_LETTERS" = some (.int 10 t)) (F_is_letters : Ok P w K mg base "is_letters" (defArgs sLetters) ["value", "most"] 1 (spLetters K)) : Ok P w K mg base "is_word" (defArgs sIsWord) ["value"] 2 (spIsWord K) := by
  refine D.ok scIsWord (fun vs G Q E h => ?_) (fun _ _ _ _ _ _ us hl => match us, hl with | [_], _ => rfl) (fun f cdv A out t G vs Q E hr h => ?_)
  · obtain ⟨v, rfl, _⟩ := h
    rfl
  · obtain ⟨v, rfl, hv, k⟩ := h
    obtain ⟨tk, hM⟩ := hM
    refine ⟨_, pss_one (ps_ret (pe_own F_is_letters (hr.mono (by decide)) takes0 (pa_cons (pv 0) (pa_cons (pe_glob (v := .int 10) rfl hM ⟨_, rfl⟩) pa_nil)))), ?_⟩
    exact ⟨_, rfl, v, 10, rfl, hv, k⟩
end
end K04
set_option Elab.async false
set_option linter.all false
set_option maxRecDepth 100000
set_option maxHeartbeats 4000000
/-! Own errors with one field or more, made by their own __init__. -/
namespace Qh
open PySem PySem.Spec PyProof.Rows L2 TL
/-- the class at C as the top has left it -/
structure ErrC (K : PySem.W.Frag) (mg : Str → Option Value) (x : Str) (C : Addr) : Prop where
  g : mg x = some (.ref C)
  o : OexC K C
  xf : XfC K C
  ec : ExcC K C
/-- C.__init__(self, f): self.f = f -/
def spErr1 (C : Addr) (f : Str) : Sp := fun vs G Q _ => ∃ (a : Addr) (v : V), vs = [.ref a, v] ∧ G a = some (exo a C none) ∧ ∀ d, G d = none → d ≠ a → Q .non (upd (upd G d (exd d [(f, v)])) a (exo a C (some d)))
structure Err1 (P : Program) (w : World) (K : PySem.W.Frag) (mg : Str → Option Value) (base : Heap) (x f : Str) (C : Addr) : Prop where
  c : ErrC K mg x C
  no : PySem.W.findIn K (.ref C) f = some none
  init : ∃ (fI : Addr) (fd : FuncData), PySem.W.findIn K (.ref C) "__init__" = some (some (.ref fI)) ∧ PySem.W.typeIn K (.ref fI) = some (.type "function") ∧ Binds K fd ["self", f] [] ∧
    FnOk P w K mg base (L2.CX P w) 1 fI fd ["self", f] (spErr1 C f)
theorem err_heap {G : Hp} {a d C : Addr} {u : HO} {fs : List (Str × V)} (ha : G a = none) (hd : d ≠ a) :
    upd (del (upd (upd (upd G a (exo a C none)) d (exd d fs)) a (exo a C (some d))) a) d u = upd G d u := by
  funext b
  by_cases hb : b = d
  · subst hb
    rw [upd_same, upd_same]
  · rw [upd_ne hb, upd_ne hb]
    by_cases hba : b = a
    · subst hba
      rw [del_same, ha]
    · rw [del_ne hba, upd_ne hba, upd_ne hb, upd_ne hba]
section
variable {X : Cx} {x f : Str} {C : Addr} {e : Expr} {te : TE} {p pos : Pos}
end
/-! ### parts between blanks -/
def blank : Str := Str.ofString " "
def partsOf (x : Str) : List Str := Txt.split x blank
/-- what words_of tells of a value: the words, or the index of the first part that is none -/
def heardS (x : Str) : List Str ⊕ Nat := if x.length = 0 then .inl [] else match (partsOf x).findIdx? (fun p => !wordS p) with
  | none => .inl (partsOf x)
  | some i => .inr i
def heardV (v : V) : List Str ⊕ Nat := match v with
  | .str x => heardS x
  | _ => .inr 0
theorem map_at {α β : Type} {f : α → β} {l : List α} {i : Nat} {b : β} (h : (l.map f)[i]? = some b) : ∃ a, l[i]? = some a ∧ b = f a := by
  rw [List.getElem?_map] at h
  cases e : l[i]? with
  | none => rw [e] at h; cases h
  | some a => rw [e] at h; exact ⟨a, rfl, (Option.some.inj h).symm⟩

/-! ### texts put together -/
def nothing : Str := Str.ofString ""
section
variable {X : Cx}
end
/-- what is heard, as data -/
def heardD (v : V) : PyData := match heardV v with
  | .inl ps => .tuple [.str (Str.ofString "told"), .tuple (ps.map PyData.str)]
  | .inr i => .tuple [.str (Str.ofString "index"), .int (i : Int)]
def spHeard (K : PySem.W.Frag) : Sp := fun vs G Q _ => ∃ (v : V), vs = [v] ∧ Known K G v ∧ ∀ (q : Addr) (G' : Hp), Same G G' → Dp K G' (.ref q) (heardD v) → Q (.ref q) G'

def told (ps : List Str) : PyData := .tuple [.str (Str.ofString "told"), .tuple (ps.map PyData.str)]
end Qh
set_option Elab.async false
set_option linter.all false
set_option maxRecDepth 100000
set_option maxHeartbeats 4000000
/-! New objects, told by what stands there and what stays; values that are no texts; repr of texts. -/
namespace Qh
open PySem PySem.Spec PyProof.Rows L2 TL
section
variable {X : Cx} {es : List Expr} {t : TA} {pos : Pos}
def nTup (t : TA) : TE := fun σ G Q => t σ G fun xs G1 => xs.length ≤ sizeLine ∧ ∀ p G', G1 p = none → Same G1 G' → G' p = some (.tup xs) → Q (.ref p) G'
def nLst (t : TA) : TE := fun σ G Q => t σ G fun xs G1 => xs.length ≤ sizeLine ∧ ∀ p G', G1 p = none → Same G1 G' → G' p = some (.lst xs) → Q (.ref p) G'
theorem pn_tup {x1} (h : PA X es t) : PE X (.Tuple es x1 pos) (nTup t) := by
  constructor
  intro pins s σ G Q I hq
  refine wpAny_Tuple_spliced (thn (h.run pos pins s σ G _ I hq) ?_)
  rintro us s1 ⟨xs, G1, I1, r, z, q⟩
  refine ⟨r.length ▸ z, ?_⟩
  have hf : G1 s1.heap.objs.size = none := I1.hok.fresh (Nat.le_refl _)
  refine ⟨.ref s1.heap.objs.size, L2.upd G1 s1.heap.objs.size (.tup xs), I1.laid (t' := s1.toks) (fun b u e => Heap.get?_push_of_some _ e) (Nat.le_refl _) ?_, rfl, q _ _ hf (Same.new hf) upd_same⟩
  exact ⟨z, us, r, ⟨_, Heap.get?_push_size _ rfl, rfl, _, rfl⟩⟩
theorem pn_lst (h : PA X es t) : PE X (.List es pos) (nLst t) := by
  constructor
  intro pins s σ G Q I hq
  refine wpAny_List_spliced (thn (h.run pos pins s σ G _ I hq) ?_)
  rintro us s1 ⟨xs, G1, I1, r, z, q⟩
  refine ⟨r.length ▸ z, ?_⟩
  have hf : G1 s1.heap.objs.size = none := I1.hok.fresh (Nat.le_refl _)
  refine ⟨.ref s1.heap.objs.size, L2.upd G1 s1.heap.objs.size (.lst xs), I1.laid (t' := s1.toks) (fun b u e => Heap.get?_push_of_some _ e) (Nat.le_refl _) ?_, rfl, q _ _ hf (Same.new hf) upd_same⟩
  exact ⟨z, us, 0, r, Heap.get?_push_size _ rfl⟩
theorem opr_imp {f : Value → Value → Sem Value} {r r' : R2} (h : OpR X f r) (k : ∀ x y G Q, r' x y G Q → r x y G Q) : OpR X f r' := fun pins s σ G x y v u Q I rx ry q => h pins s σ G x y v u Q I rx ry (k x y G Q q)
theorem callr_imp {f : Value} {r r' : List V → Hp → VK → Prop} (h : CallR X f r) (k : ∀ xs G Q, r' xs G Q → r xs G Q) : CallR X f r' := fun pins s σ G xs us Q I r q => h pins s σ G xs us Q I r (k xs G Q q)
def nCat : R2 := fun x y G Q => ∃ l b xs zs, x = .ref l ∧ y = .ref b ∧ G l = some (.lst xs) ∧ G b = some (.lst zs) ∧ xs.length + zs.length ≤ sizeLine ∧ ∀ p G', G p = none → Same G G' → G' p = some (.lst (xs ++ zs)) → Q (.ref p) G'
theorem on_cat : OpR X (binaryOp .Add) nCat := opr_imp op_cat fun x y G Q ⟨l, b, xs, zs, e1, e2, h1, h2, hz, q⟩ => ⟨l, b, xs, zs, e1, e2, h1, h2, hz, fun p hp => q p _ hp (Same.new hp) upd_same⟩
def nRep : R2 := fun x y G Q => ∃ l k xs, x = .ref l ∧ y = .int k ∧ G l = some (.lst xs) ∧ -(2 ^ 63) ≤ k ∧ k < 2 ^ 63 ∧ xs.length * k.toNat ≤ sizeLine ∧ ∀ p G', G p = none → Same G G' → G' p = some (.lst (List.replicate k.toNat xs).flatten) → Q (.ref p) G'
theorem on_rep : OpR X (binaryOp .Mult) nRep := opr_imp op_rep fun x y G Q ⟨l, k, xs, e1, e2, h1, h2, h3, hz, q⟩ => ⟨l, k, xs, e1, e2, h1, h2, h3, hz, fun p hp => q p _ hp (Same.new hp) upd_same⟩
/-- tuple(a list) -/
def nTuple (K : PySem.W.Frag) : List V → Hp → VK → Prop := fun vs G Q => ∃ p ys, vs = [.ref p] ∧ SqL K G p ys ∧ ∀ l G', G l = none → Same G G' → G' l = some (.tup ys) → Q (.ref l) G'
theorem cn_tuple : CallR X (.type "tuple") (nTuple X.K) := callr_imp call_tuple_of fun xs G Q ⟨p, ys, e, h, q⟩ => ⟨p, ys, e, .inl ⟨h, fun l hl => q l _ hl (Same.new hl) upd_same⟩⟩
theorem pe_imp {e : Expr} {te te' : TE} (h : PE X e te) (k : ∀ σ G Q, te' σ G Q → te σ G Q) : PE X e te' := ⟨fun pins s σ G Q I q => h.run pins s σ G Q I (k σ G Q q)⟩
def nDict : TE := fun _ G Q => ∀ p G', G p = none → Same G G' → G' p = some (.dK []) → Q (.ref p) G'
theorem pn_dict : PE X (.Dict [] [] pos) nDict := pe_imp pe_dnewK fun σ G Q q p hp => q p _ hp (Same.new hp) upd_same
end
/-! ### what is read stays -/
mutual
theorem dp_same {K : PySem.W.Frag} {G G' : Hp} (s : Same G G') : ∀ {v : V} {d : PyData}, Dp K G v d → Dp K G' v d
  | _, _, .non => .non
  | _, _, .bl b => .bl b
  | _, _, .int i => .int i
  | _, _, .str x => .str x
  | _, _, .lst h r => .lst (s.seq h) (dps_same s r)
  | _, _, .tup h r => .tup (by
      rcases h with (h | ⟨o, h⟩) | h
      · exact .inl (.inl (s _ _ h))
      · exact .inl (.inr ⟨o, s _ _ h⟩)
      · exact .inr h) (dps_same s r)
theorem dps_same {K : PySem.W.Frag} {G G' : Hp} (s : Same G G') : ∀ {vs : List V} {ds : List PyData}, DpAll K G vs ds → DpAll K G' vs ds
  | _, _, .nil => .nil
  | _, _, .cons h r => .cons (dp_same s h) (dps_same s r)
end
/-- no text, of a known type -/
def Odd (K : PySem.W.Frag) (G : Hp) (v : V) : Prop := (∀ x, v ≠ .str x) ∧ ((v = .non ∨ (∃ b, v = .bl b) ∨ ∃ i, v = .int i) ∨ ∃ a o, v = .ref a ∧ G a = some o ∧ ((∃ xs, o = .lst xs) ∨ (∃ xs, o = .tup xs) ∨ ∃ kvs, o = .dK kvs))
theorem Odd.same {K : PySem.W.Frag} {G G' : Hp} {v : V} (h : Odd K G v) (s : Same G G') : Odd K G' v := by
  obtain ⟨h1, h2 | ⟨a, o, e, ha, h3⟩⟩ := h
  · exact ⟨h1, .inl h2⟩
  · exact ⟨h1, .inr ⟨a, o, e, s _ _ ha, h3⟩⟩
theorem Odd.known {K : PySem.W.Frag} {G : Hp} {v : V} (h : Odd K G v) : Known K G v := by
  refine .inr ⟨h.1, ?_⟩
  obtain ⟨_, (rfl | ⟨b, rfl⟩ | ⟨i, rfl⟩) | ⟨a, o, rfl, ha, ⟨xs, rfl⟩ | ⟨xs, rfl⟩ | ⟨kvs, rfl⟩⟩⟩ := h
  · exact ⟨_, .base .non, kit_ty (by decide +kernel)⟩
  · exact ⟨_, .base (.bl b), kit_ty (by decide +kernel)⟩
  · exact ⟨_, .base (.int i), kit_ty (by decide +kernel)⟩
  · exact ⟨_, .base (.lst ha), kit_ty (by decide +kernel)⟩
  · exact ⟨_, .base (.tup ha), kit_ty (by decide +kernel)⟩
  · exact ⟨_, .base (.dK ha), kit_ty (by decide +kernel)⟩
/-! ### repr of a tuple of texts -/
/-! ### what is heard of words put together -/
theorem eqv_same {d : PyData} (h : SeqAt.shaped d = true) : PyData.eqv d d = true := SeqAt.eqv_refl d (SeqAt.canLay_of_shaped h)
end Qh
set_option Elab.async false
set_option linter.all false
set_option maxRecDepth 100000
set_option maxHeartbeats 4000000
/-! Own ==, !=, str, repr of instances with a dict of their own. -/
namespace Qp
open PySem PySem.Spec PyProof.Rows L2 TL Qh SlX
section
variable {prog : Program} {w : World} {A : Around} {E : Value → Shared → Prop} {s : Shared} {K : PySem.W.Frag} {x C f L : Addr} {h₀ : Heap} {m : Str → Option Value} {ox : Obj} {od : Option Obj} {b tb : Value}
theorem ifBound_B {M : Model} {name : Str} {id : String} {args : List Value} {Q : Option Value → Shared → Prop} (X : K.In s.heap) (I : PySem.W.InstAt s.heap x ox C od) (hs : PySem.W.findIn K (.ref C) name = some (some (.builtin id)))
    (hb : ∀ self, bindSpecial (.builtin id) self = pure (.builtin id, [self])) (h : wpAny M A (call (.builtin id) (.ref x :: args)) (fun v => Q (some v)) E s) : wpAny M A (callSpecialIfBound? (.ref x) name args) Q E s := by
  simp only [callSpecialIfBound?, bindSpecialIfBound?]
  refine wpAny_holding (wpAny_bind (wpAny_bind (wpAny_bind (I.type.here ((PySem.W.looks_findIn X hs).here ?_)))))
  refine wpAny_bind (wpAny_askSetting (wpAny_ite ?_))
  have fin : wpAny M A (call (.builtin id) ([.ref x] ++ args) >>= fun v => pure (some v)) Q E s := wpAny_bind (wpAny_mono h (fun v s' h' => wpAny_pure h') fun _ _ h' => h')
  split
  · exact wpAny_bind (wpAny_of_eq (hb _) (wpAny_pure (by exact fin)))
  · exact wpAny_tryCatch (wpAny_bind (wpAny_of_eq (hb _) (wpAny_pure (by exact fin))))
theorem entry_ne {Q : Fin → Shared → Prop} (hu : A.units < cLine) (X : K.In s.heap) (I : PySem.W.InstAt s.heap x ox C od) (he : PySem.W.findIn K (.ref C) "__eq__" = some (some (.ref f))) (hf : PySem.W.isFn K (.ref f) = true)
    (h : wpAny (model prog w) A (call (.ref f) [.ref x, b]) (fun v s' => ∃ k, v = .bool k ∧ Q (.done (.ret (.bool (!k)))) s') E s) : wpAny (model prog w) A (Builtin.«object.__ne__» ⟨[.ref x, b], []⟩) Q E s := by
  unfold Builtin.«object.__ne__»
  refine wpAny_bind (m := slotArgs "__ne__" 1 _) (wpAny_pure ?_)
  refine wpAny_bind (m := cRoomFor _ _) (wpAny_cRoomFor hu ?_)
  refine wpAny_bind (m := callSpecialIfBound? (.ref x) (Str.ofString "__eq__") _) (PySem.W.ifBound_K X I he hf (wpAny_mono h (fun r s' hr => ?_) fun _ _ y => y))
  obtain ⟨k, rfl, hq⟩ := hr
  repeat (first | exact hq | exact wpAny_pure hq | exact wpAny_truthy_bool hq | (refine wpAny_bind (m := truthy (.bool _)) (wpAny_truthy_bool ?_)) | wp_step)
theorem ne_K {Q : Value → Shared → Prop} (hu : A.units + 1 < cLine) (F : Fr h₀ L s.heap m) (X₀ : K.In h₀) (I : PySem.W.InstAt s.heap x ox C od) (hb : PySem.W.Looks (model prog w) s.heap (typeOf b) tb) (hn : PySem.W.notFirst K C tb = true)
    (hm : PySem.W.mroIn K C (.type "object") = some true) (hs : PySem.W.findIn K (.ref C) "__ne__" = some (some (.builtin "object.__ne__"))) (he : PySem.W.findIn K (.ref C) "__eq__" = some (some (.ref f))) (hf : PySem.W.isFn K (.ref f) = true)
    (h : wpAny (model prog w) A.in1 (call (.ref f) [.ref x, b]) (fun v s' => ∃ k, v = .bool k ∧ Q (.bool (!k)) s') E s) : wpAny (model prog w) A (richCompare .NotEq (.ref x) b) Q E s := by
  have X := X₀.keeps F.keep
  have one : wpAny (model prog w) A (tryCompare (.ref x) (cmpInfo .NotEq).2.1 b) (fun r s' => ∃ v, r = some v ∧ Q v s') E s := by
    unfold tryCompare
    refine wpAny_bind (ifBound_B X I hs PySem.F.cmp_object.ne.bind (wpAny_call (codeAny_call_builtin PySem.F.cmp_object.ne.plain PySem.F.cmpEntry_ne
      (PySem.W.check_slot PySem.F.cmpKind_ne PySem.F.cmpSplit_ne (I.type.andThen (PySem.W.looks_mroIn X hm)) (PySem.F.cmpArgs_ne _ _) (entry_ne (A := A.in1) hu X I he hf (wpAny_mono h (fun v s' hv => ?_) fun _ _ e => e))))))
    obtain ⟨k, rfl, hq⟩ := hv
    first
      | exact ⟨k, rfl, wpAny_pure ⟨_, rfl, hq⟩⟩
      | exact ⟨k, rfl, wpAny_pure (wpAny_pure ⟨_, rfl, hq⟩)⟩
      | exact ⟨k, rfl, ⟨_, rfl, hq⟩⟩
  unfold richCompare
  simp only [oneThing_ref]
  refine wpAny_holding (wpAny_bind (wpAny_cRoomFor (Nat.lt_of_succ_lt hu) ?_))
  refine wpAny_bind (I.type.here (wpAny_bind (hb.here ?_)))
  split
  · rename_i q
    have e : PySem.W.subIn K tb (.ref C) = some false := by
      rcases Bool.or_eq_true_iff.mp hn with e | e
      · rw [beq_iff_eq.mp e] at q; simp at q
      · exact beq_iff_eq.mp e
    refine wpAny_bind ((PySem.W.looks_subIn X e).here ?_)
    simp only [Bool.false_eq_true, if_false]
    refine wpAny_bind (wpAny_mono one (fun r s' z => ?_) fun _ _ e => e)
    obtain ⟨v, rfl, hq⟩ := z
    exact wpAny_pure hq
  · refine wpAny_bind (wpAny_pure ?_)
    simp only [Bool.false_eq_true, if_false]
    refine wpAny_bind (wpAny_mono one (fun r s' z => ?_) fun _ _ e => e)
    obtain ⟨v, rfl, hq⟩ := z
    exact wpAny_pure hq
end
section
variable {X : Cx} {CX : CXT} {C g : Addr} {n : Nat} {sp : Sp} {E : XK}
/-- x != y, by the own == -/
def rOwnNe (K : PySem.W.Frag) (C : Addr) (sp : Sp) (E : XK) : R2 := fun x y H Q => ∃ (a dx : Addr) (fs : List (Str × V)) (t : Value), x = .ref a ∧ H a = some (.ins C dx fs) ∧ TyX K H y t ∧ PySem.W.notFirst K C t = true ∧ sp [x, y] H (fun v H' => ∃ k, v = .bl k ∧ Q (.bl (!k)) H') E
theorem op_ownNe (hm : PySem.W.mroIn X.K C (.type "object") = some true) (hne : PySem.W.findIn X.K (.ref C) "__ne__" = some (some (.builtin "object.__ne__"))) (hs : PySem.W.findIn X.K (.ref C) "__eq__" = some (some (.ref g))) (hf : PySem.W.isFn X.K (.ref g) = true)
    (F : FnR X.prog X.w X.K X.mg X.base CX n g sp) (hr : Room (n + 1) X.A) (hx : Passes CX X E) : OpR X (compareOp .NotEq) (rOwnNe X.K C sp E) := by
  intro pins s σ H x y v u Q I rx ry h
  obtain ⟨a, dx, fs, t, rfl, ha, ty, hn, q⟩ := h
  cases (show v = Value.ref a from rx)
  obtain ⟨mA, J, _⟩ := ins_get I.hok ha
  obtain ⟨od, J, _⟩ := J.look
  obtain ⟨Pk, Z, hP, _⟩ := kit_of I ry ty
  obtain ⟨m, hF⟩ := I.fr
  show wpAny (model X.prog X.w) X.A (richCompare .NotEq (.ref a) u) _ _ s
  refine ne_K (tb := t) (by have := hr.un; omega) hF I.ok.mod.kin J (Z.ty _ _ I.kIn hP) hn hm hne hs hf ?_
  refine wpAny_mono (wpAny_call (run_at (us := [.ref a, u]) (ws := [.ref a, y]) F hr.in1 I.env0.in1 hx I (.cons rfl (.cons ry .nil)) q)) (fun w s' z => ?_) fun _ _ x => x
  obtain ⟨z', H', I', rz, k, rfl, qz⟩ := z
  cases (show w = Value.bool k from rz)
  exact ⟨k, rfl, .bl (!k), H', I', rfl, qz⟩
end
end Qp
set_option Elab.async false
set_option linter.all false
set_option maxRecDepth 100000
set_option maxHeartbeats 4000000
/-! A walk over a list or a tuple; max(a list of ints, default = d); enumerate(a tuple); o.m(k = v). -/
namespace Ql
open PySem PySem.Spec PyProof.Rows L2 Qh PySem.W
section
variable {X : Cx} {tg : Expr}
/-! ### max(xs, default = d) -/
/-! ### enumerate(tuple) -/
end
end Ql
set_option Elab.async false
set_option linter.all false
set_option maxRecDepth 100000
set_option maxHeartbeats 4000000
/-! Sets of texts: what stands in them, a text added, made of a row, sorted. -/
namespace Qs
open PySem PySem.Spec PyProof.Rows L2
def keyX (e : Int × Value) : Str := match e.2 with
  | .str x _ => x
  | _ => Str.empty
def GoodX (w : World) (e : Int × Value) : Prop := ∃ x tk, e.2 = Value.str x tk ∧ e.1 = hashStr w x
/-- the set at a has just the texts ks -/
def SetX (w : World) (h : Heap) (a : Addr) (ks : List Str) : Prop := ∃ o es ep t, h.get? a = some o ∧ o.ExactSet ∧ o.data = .set es ep t ∧ (∀ e ∈ es.toList, GoodX w e) ∧ (es.toList.map keyX).Perm ks ∧ ks.Nodup ∧
  es.size < scanBound ∧ t.fits es.size = true ∧ Ris t.place.toList ∧ (w.params.followText "set-order" = true ∨ t.led = true)
section
variable {P : Program} {w : World} {h h' : Heap} {a : Addr} {ks : List Str}
theorem SetX.at (R : SetX w h a ks) (k : ∀ o, h.get? a = some o → h'.get? a = some o) : SetX w h' a ks := by
  obtain ⟨o, es, ep, t, hob, more⟩ := R
  exact ⟨o, es, ep, t, k o hob, more⟩
end
section
variable {P : Program} {w : World} {A : Around} {E : Value → Shared → Prop} {s : Shared} {a : Addr} {ks : List Str}
/-- what the set has behind x -/
def more (ks : List Str) (x : Str) : List Str := if x ∈ ks then ks else x :: ks
end
end Qs
set_option Elab.async false
set_option linter.all false
set_option maxRecDepth 100000
set_option maxHeartbeats 4000000
/-! set(a list or tuple of texts). -/
namespace Qs
open PySem PySem.Spec PyProof.Rows L2
def metOf (l : List Str) (i : Nat) : List Str := (l.take i).foldl more []
section
variable {prog : Program} {w : World} {A : Around} {R : Result → Shared → Prop} {I : Addr} {fp wr : List Addr} {G : Array GenState → Array GenState → Prop} {n : Nat} {P : Nat → Value → Prop} {St : Nat → Shared → Prop}
end
end Qs
set_option Elab.async false
set_option linter.all false
set_option maxRecDepth 100000
set_option maxHeartbeats 6400000
/-! The call of set with a list or a tuple of texts. -/
namespace PySem
section
variable {prog : Program} {w : World} {A : Around} {E : Value → Shared → Prop} {s : Shared}
end
end PySem
set_option Elab.async false
set_option linter.all false
set_option maxRecDepth 100000
set_option maxHeartbeats 4000000
/-! sorted(a set of texts); the rules. -/
namespace Qs
open PySem PySem.Spec PyProof.Rows L2
section
variable {P : Program} {w : World} {A : Around} {E : Value → Shared → Prop} {s : Shared} {a : Addr} {ks : List Str}
end
section
variable {X : Cx}
end
end Qs
set_option Elab.async false
set_option linter.all false
set_option maxRecDepth 100000
set_option maxHeartbeats 4000000
/-! Just one row of texts is sorted; ascending(values). -/
namespace Qs
open PySem PySem.Spec PyProof.Rows L2
/-- ss is the ascending row of the texts ts -/
def Asc (ts ss : List Str) : Prop := ss.Perm (metOf ts ts.length) ∧ sortedS ss = true
/-- ascending(values): the tuple -/
def spAsc (K : PySem.W.Frag) : Sp := fun vs G Q _ => ∃ (l : Addr) (ts : List Str), vs = [.ref l] ∧ (SqL K G l (ts.map V.str) ∨ SqT K G l (ts.map V.str)) ∧ ts.length < 64 ∧
  ∀ (ss : List Str) p G', Asc ts ss → G p = none → Same G G' → G' p = some (.tup (ss.map V.str)) → Q (.ref p) G'
end Qs
set_option Elab.async false
set_option linter.all false
set_option maxRecDepth 100000
set_option maxHeartbeats 4000000
/-! Own errors as plain values: any built-in base, values by position or by name. -/
namespace Qv
open PySem PySem.HandSPX
section
variable {M : Model} {A : Around} {E : Value → Shared → Prop} {h : Heap} {g : Array GenState} {d : Drawn} {t : Nat} {os : OsState} {prog : Program} {w : World} {R : Result → Shared → Prop}
variable {nm q : Str} {C N : Addr} {bs bm bmB : List Value} {hdct : Bool} {sn : List Str} {sub : List Value} {ab : Bool} {col : Option Bool} {dd : Option Addr} {k0 k1 k2 k3 k5 : Option Value} {B newId initId : String} {rest : List Value} {kw : List (Str × Value)}

/-- what new asks of the bases -/
def basesOk (B : String) (bm : List Value) : Bool := bm.contains (.type B) && (!bm.contains (.type "AttributeError") && !bm.contains (.type "NameError"))
end
section
open PySem.W Builtin Builtin.ObjectAttr
variable {prog : Program} {w : World} {A : Around} {R : Result → Shared → Prop} {K : W.Frag} {hp : Heap} {g : Array GenState} {d : Drawn} {t : Nat} {os : OsState} {name : Str} {tk : Tok} {v : Value} {x C : Addr} {fv : Array Value} {cd : ClassData} {B : String} {bmB : List Value}
end
end Qv
set_option Elab.async false
set_option linter.all false
set_option maxRecDepth 100000
/-! KeyError's own store of a field. -/
namespace Qv
open PySem PySem.F
end Qv
set_option Elab.async false
set_option linter.all false
set_option maxRecDepth 100000
set_option maxHeartbeats 4000000
/-! Own errors as plain values, in the layer of readings. -/
namespace Qv
open PySem PySem.Spec PyProof.Rows L2 Qh
/-- what the top says of an own error class, whatever its built-in base -/
structure OexG (K : PySem.W.Frag) (C : Addr) : Prop where
  cls : ∃ (B newId initId Bs : String) (bmN bmB : List Value) (nm q : Str) (N : Addr) (bs bm : List Value) (sn : List Str) (sub : List Value) (ab : Bool) (col : Option Bool) (dd : Option Addr) (k0 k1 k2 k3 k5 : Option Value),
    K.lookup C = some (excClassObj nm q C N bs bm true sn sub ab col dd k0 k1 k2 k3 k5 newId) ∧ basesOk B bm = true ∧ ExcBaseFacts B newId initId bmN ∧ StoreFacts Bs bmB "object.__setattr__" "object"  ∧ PySem.W.excOver K C bmB = true
  sa : PySem.W.findIn K (.ref C) "__setattr__" = some (some (.builtin "object.__setattr__"))
  kC : PySem.W.keepIn K (.ref C) = true
/-- the error of the class C at a, with these fields -/
def ErrAt (G : Hp) (a C : Addr) (fs : List (Str × V)) : Prop := ∃ d, G a = some (exo a C (some d)) ∧ G d = some (exd d fs)
theorem ErrAt.same {G G' : Hp} {a C : Addr} {fs : List (Str × V)} (e : ErrAt G a C fs) (s : Same G G') : ErrAt G' a C fs := by
  obtain ⟨d, h1, h2⟩ := e
  exact ⟨d, s _ _ h1, s _ _ h2⟩
/-- C.__init__(self, f, ..): self.f = f, .. -/
def spErrG (C : Addr) (fields : List Str) : Sp := fun vs G Q _ => ∃ (a : Addr) (ws : List V), vs = .ref a :: ws ∧ ws.length = fields.length ∧ G a = some (exo a C none) ∧
  ∀ d, G d = none → d ≠ a → Q .non (upd (upd G d (exd d (fields.zip ws).reverse)) a (exo a C (some d)))
section
variable {X : Cx} {pins : List (Addr × Obj)} {σ : L2.St} {H : Hp} {s : Shared} {a C dx : Addr} {f : Str} {y : V} {u : Value} {fs : List (Str × V)} {Q : Unit → Shared → Prop} {E : Value → Shared → Prop} {A : Around}
theorem OexG.data {K : PySem.W.Frag} {C : Addr} (T : OexG K C) : ∃ (B newId initId Bs : String) (bmN bmB : List Value) (nm q : Str) (N : Addr) (bs bm : List Value) (sn : List Str) (sub : List Value) (ab : Bool) (col : Option Bool) (dd : Option Addr) (k0 k1 k2 k3 k5 : Option Value) (cd : ClassData),
    K.lookup C = some (excClassObj nm q C N bs bm true sn sub ab col dd k0 k1 k2 k3 k5 newId) ∧ basesOk B bm = true ∧ ExcBaseFacts B newId initId bmN ∧ StoreFacts Bs bmB "object.__setattr__" "object" ∧ PySem.W.excOver K C bmB = true ∧ PySem.W.clsIn K C = some cd ∧ cd.hasDict = true := by
  obtain ⟨B, newId, initId, Bs, bmN, bmB, nm, q, N, bs, bm, sn, sub, ab, col, dd, k0, k1, k2, k3, k5, h1, h2, h3, h4, h5⟩ := T.cls
  exact ⟨B, newId, initId, Bs, bmN, bmB, nm, q, N, bs, bm, sn, sub, ab, col, dd, k0, k1, k2, k3, k5, { name := nm, bases := bs, mro := .ref C :: bm, ns := N, qualname := q, hasDict := true, slotNames := sn, subclasses := sub, abstract := ab, collection := col, hasDel := false },
    h1, h2, h3, h4, h5, by unfold PySem.W.clsIn; rw [h1] <;> rfl, rfl⟩
end
section
variable {X : Cx} {o e : Expr} {es : List Expr} {kws : List Keyword} {to te : TE} {ta : TA} {f x : Str} {p p' pos : Pos} {C : Addr} {fields : List Str}
end
end Qv
set_option Elab.async false
set_option linter.all false
set_option maxRecDepth 100000
set_option maxHeartbeats 4000000
/-! Own errors as plain values: made, read, told apart. -/
namespace Qv
open PySem PySem.Spec PyProof.Rows L2 Qh
/-- an own error class with this __init__ -/
structure ErrK (P : Program) (w : World) (K : PySem.W.Frag) (mg : Str → Option Value) (base : Heap) (x qn : Str) (pa : Arguments) (fields : List Str) (C : Addr) : Prop where
  g : mg x = some (.ref C)
  o : OexG K C
  xf : XfC K C
  ec : ExcC K C
  no : ∀ f ∈ fields, PySem.W.findIn K (.ref C) f = some none
  init : ∃ (fI : Addr) (body : List Stmt) (scope : Scope) (kV doc pm : Value) (an : Option Addr) (cdv ct : Value), PySem.W.findIn K (.ref C) "__init__" = some (some (.ref fI)) ∧ PySem.W.typeIn K (.ref fI) = some (.type "function") ∧
    (∀ us : List Value, us.length = fields.length + 1 → bindArgs (PySem.W.fnOf "__init__" qn pa body scope .none kV doc pm an cdv ct) ⟨us, []⟩ = pure ((("self" : Str) :: fields).zip us)) ∧
    FnOk P w K mg base (L2.CX P w) 1 fI (PySem.W.fnOf "__init__" qn pa body scope .none kV doc pm an cdv ct) (("self" : Str) :: fields) (spErrG C fields)
section
variable {X : Cx} {pins : List (Addr × Obj)} {σ : L2.St} {H1 : Hp} {s : Shared} {C fI : Addr} {fd : FuncData} {ps : List Str} {sp : Sp} {rest us : List Value} {kw : List (Str × Value)} {vs : List V} {Q : VK}
end
section
variable {X : Cx} {o e : Expr} {es : List Expr} {kws : List Keyword} {to te : TE} {ta : TA} {f x qn : Str} {pa : Arguments} {p pos : Pos} {C : Addr} {fields : List Str}
end
end Qv
set_option Elab.async false
set_option linter.all false
set_option maxRecDepth 100000
set_option maxHeartbeats 4000000
/-! Instances made where errors are wished for at the caller's slots; ascending(values). -/
namespace Qi
open PySem PySem.Spec PyProof.Rows L2 Qh
section
variable {X : Cx} {W : WX} {k : Nat} {f C : Addr} {sp : Sp} {x : Str} {e : Expr} {es : List Expr} {t : TA} {p pos : Pos}
end
/-- ascending(values): the tuple of the texts in order, each once -/
def spAsc (K : PySem.W.Frag) : Sp := fun vs G Q _ => ∃ (l : Addr) (ts : List Str), vs = [.ref l] ∧ (SqL K G l (ts.map V.str) ∨ SqT K G l (ts.map V.str)) ∧ ts.length < 64 ∧
  ∀ (ss : List Str) p G', Qs.Asc ts ss → G p = none → Same G G' → G' p = some (.tup (ss.map V.str)) → Q (.ref p) G'
end Qi
set_option Elab.async false
set_option linter.all false
set_option maxRecDepth 100000
set_option maxHeartbeats 4000000
/-! def f(a, .., *v, k): called with values and k = value; instances made so; own errors with several fields, raised. -/
namespace Qi
open PySem PySem.Spec PyProof.Rows L2 Qh StX
section
variable {CX : CXT} {P : Program} {w : World} {K : PySem.W.Frag} {mg : Str → Option Value} {base : Heap} {k : Nat} {f : Addr} {name qual : Str} {params : Arguments} {body : List Stmt} {scope : Scope} {dV kV doc pm cdv ct oc : Value} {an od : Option Addr}
  {osl : Array (Option Value)} {N ps : List Str} {sp : Sp}
end
section
variable {X : Cx} {W : WX} {k : Nat} {f C : Addr} {sp : Sp} {x pk : Str} {e : Expr} {es : List Expr} {kws : List Keyword} {t tkw : TA} {p pos : Pos}
end
/-! ### own errors with several fields, raised -/
structure ErrN (P : Program) (w : World) (K : PySem.W.Frag) (mg : Str → Option Value) (base : Heap) (x : Str) (fields : List Str) (C : Addr) : Prop where
  c : ErrC K mg x C
  no : ∀ f ∈ fields, PySem.W.findIn K (.ref C) f = some none
  init : ∃ (fI : Addr) (fd : FuncData), PySem.W.findIn K (.ref C) "__init__" = some (some (.ref fI)) ∧ PySem.W.typeIn K (.ref fI) = some (.type "function") ∧ Binds K fd (("self" : Str) :: fields) [] ∧
    FnOk P w K mg base (L2.CX P w) 1 fI fd (("self" : Str) :: fields) (Qv.spErrG C fields)
section
variable {X : Cx} {x : Str} {C : Addr} {fields : List Str} {e : Expr} {es : List Expr} {t : TA} {p pos : Pos}
theorem pmk_errN (T : ErrN X.prog X.w X.K X.mg X.base x fields C) (hr : Room 2 X.A) (ha : PA X (e :: es) t) (hg : Gl X x := by rfl) (hdb : (x == ("__debug__" : Str)) = false := by decide)
    (hs : starEach (e :: es) X.env = (false, eval e X.env) :: starEach es X.env := by rfl) (hpl : (backTo pos (starEach es X.env)).any (·.1) = false := by rfl) :
    PMk X (.Call (.Name x p) (e :: es) [] pos) (tMkO C (Qv.spErrG C fields) [] t) := by
  obtain ⟨fI, fd, iC, tI, hb, F⟩ := T.init
  exact pmk_oex (p := p) (pos := pos) T.c.o iC tI F hr hb .nil passL hg T.c.g ha hdb hs hpl
end
/-- .. what its reading ends in -/
theorem errN_end {fields : List Str} {C : Addr} {ws : List V} {G1 : Hp} {Q : XK} (hl : ws.length = fields.length) (few : ws.length ≤ 1000) (q : ∀ d, G1 d = none → Q (.ref C) (some d) (upd G1 d (.xd (fields.zip ws).reverse))) :
    ws.length ≤ 1000 ∧ ∀ a, G1 a = none → Qv.spErrG C fields (.ref a :: (ws ++ [])) (upd G1 a (exo a C none))
      (fun v H2 => v = .non ∧ ∃ (d : Addr) (fs : List (Str × V)), H2 a = some (exo a C (some d)) ∧ H2 d = some (exd d fs) ∧ G1 d = none ∧ Q (.ref C) (some d) (upd (del H2 a) d (.xd fs))) (fun _ _ _ => False) := by
  refine ⟨few, fun a ha => ⟨a, ws, by rw [List.append_nil], hl, upd_same, fun d hd da => ⟨rfl, d, (fields.zip ws).reverse, upd_same, ?_, ?_, ?_⟩⟩⟩
  · rw [upd_ne da, upd_same]
  · rw [upd_ne da] at hd
    exact hd
  · rw [err_heap ha da]
    rw [upd_ne da] at hd
    exact q d hd
end Qi
set_option Elab.async false
set_option linter.all false
set_option maxRecDepth 100000
set_option maxHeartbeats 4000000
/-! C() of a class without own __init__. -/
namespace Qp
open PySem PySem.Spec PyProof.Rows L2 TL Qh SlX PySem.W NwA
section
variable {X : Cx} {C : Addr} {x : Str} {p pos : Pos}
end
end Qp
set_option Elab.async false
set_option linter.all false
set_option maxRecDepth 100000
set_option maxHeartbeats 4000000
namespace K04
open PySem PySem.Spec PyProof.Rows L2 TL Qh Qi Ql Qp ClX
abbrev sErrInit : Stmt := inClass (top 2) 0
theorem txt_of {m : Int} {v : V} (h : lettersV v m = true) : ∃ x, v = .str x := by
  cases v with
  | str x => exact ⟨x, rfl⟩
  | _ => cases h
def ErrStep (G G' : Hp) (d : Addr) (reason : Str) (i : V) : Prop := G d = none ∧ Same G G' ∧ G' d = some (.xd [("index", i), ("reason", .str reason)])
theorem two_of {l : List V} (h : l.length = 2) : ∃ a b, l = [a, b] := match l, h with
  | [a, b], _ => ⟨a, b, rfl⟩
theorem heap2 {G : Hp} {a d : Addr} {x y z : HO} (n : d ≠ a) : L2.upd (L2.upd (L2.upd G d x) a y) d z = L2.upd (L2.upd G d z) a y := by
  funext b
  by_cases hb : b = d
  · subst hb
    rw [upd_same, upd_ne n, upd_same]
  · rw [upd_ne hb]
    by_cases ha : b = a
    · subst ha
      rw [upd_same, upd_same]
    · rw [upd_ne ha, upd_ne hb, upd_ne ha, upd_ne hb]
theorem tup_ne_ins {G : Hp} {D C dx : Addr} {fs : List (Str × V)} (h : G D = some (.ins C dx fs)) : ∀ a t, G a = some (.tup t) → a ≠ D := fun a t e z => by
  rw [z, h] at e
  cases e
section
variable {P : Program} {w : World} {K : PySem.W.Frag} {mg : Str → Option Value} {base : Heap}
theorem scErrInit : FnScope ["self", "reason", "index"] ["self", "reason", "index"] (defScope sErrInit) := ⟨rfl, rfl, rfl, by decide +kernel, rfl, by decide +kernel, by decide +kernel⟩
theorem ok_errInit {C f : Addr} {fd : FuncData} (F : Fun K "__init__" "InvalidStep.__init__" sErrInit f fd) (T : OexC K C) (no : ∀ x ∈ (["reason", "index"] : List Str), PySem.W.findIn K (.ref C) x = some none) : FnOk P w K mg base (L2.CX P w) 1 f fd ["self", "reason", "index"] (Qv.spErrG C ["reason", "index"]) := by
  refine F.okX scErrInit (fun vs G Q E h => ?_) (fun cdv A out t G vs Q E hr h => ?_)
  · obtain ⟨a, ws, rfl, hl, _⟩ := h
    rw [List.length_cons, hl]
    rfl
  · obtain ⟨a, ws, rfl, hl, ha, k⟩ := h
    obtain ⟨y1, y2, rfl⟩ := two_of hl
    refine ⟨_, pss_cons (ps_ost (pv 0) (pv 1)) (pss_one (ps_ost (pv 0) (pv 2))), ?_⟩
    refine ⟨_, rfl, _, rfl, a, C, rfl, T, no _ List.mem_cons_self, .inl ⟨ha, fun dx hd da => ?_⟩⟩
    refine ⟨_, rfl, _, rfl, a, C, rfl, T, no _ (List.mem_cons_of_mem _ List.mem_cons_self), .inr ⟨dx, _, upd_same, by rw [upd_ne da, upd_same], by show 1 ≤ 900; decide, ?_⟩⟩
    rw [heap2 da]
    exact k dx hd da
end
end K04
set_option Elab.async false
set_option linter.all false
set_option maxRecDepth 100000
set_option maxHeartbeats 4000000
/-! sorted(list of tuples of ints and texts of one shape), sorted(d.items()). -/
namespace Qst
open PySem PySem.Spec PyProof.Rows L2 SrtO
/-- where the tuple v stands -/
def plc (h : Heap) (sh : Nat → Bool) (v : Value) : List (Int ⊕ List Nat) := (tupKey h sh v).getD []
def ltv (h : Heap) (sh : Nat → Bool) (v u : Value) : Bool := lexLt itemOrd (plc h sh v) (plc h sh u)
theorem lex_swo {β : Type} (f : β → List (Int ⊕ List Nat)) : Swo fun v u => lexLt itemOrd (f v) (f u) := by
  refine ⟨fun x y h => ?_, fun x y z h1 h2 => ?_⟩
  · cases e : lexLt itemOrd (f y) (f x) with
    | false => rfl
    | true =>
      have := lex_trans (O := itemOrd) _ _ _ h e
      rw [lex_irrefl (O := itemOrd)] at this
      cases this
  · cases e : lexLt itemOrd (f z) (f x) with
    | false => rfl
    | true =>
      rcases lex_negTrans (O := itemOrd) _ (f y) _ e with k | k
      · rw [show lexLt itemOrd (f z) (f y) = false from h2] at k
        cases k
      · rw [show lexLt itemOrd (f y) (f x) = false from h1] at k
        cases k
/-- a key as the order sees it -/
def ik : Key → Int ⊕ List Nat
  | .inl i => .inl i
  | .inr x => .inr x.cps.toList
def ltK (a b : List Key) : Bool := lexLt itemOrd (a.map ik) (b.map ik)
/-- the shape: which items are texts; there is a first one -/
def Shp (sh : Nat → Bool) (ks : List Key) : Prop := ks ≠ [] ∧ ∀ i k, ks[i]? = some k → (sh i = true ↔ ∃ x, k = .inr x)
theorem items_key {sh : Nat → Bool} : ∀ {ks : List Key} {us : List Value} (n : Nat), Vals (ks.map kV) us → (∀ i k, ks[i]? = some k → (sh (n + i) = true ↔ ∃ x, k = .inr x)) → tupItems sh n us = some (ks.map ik)
  | [], _, n, r, _ => by
    cases r
    unfold tupItems
    rfl
  | k :: ks, _, n, r, hs => by
    cases r with
    | cons r1 r2 =>
      have ih := items_key (n + 1) r2 fun i k' e => by
        have := hs (i + 1) k' (by simpa using e)
        rw [show n + 1 + i = n + (i + 1) by omega]
        exact this
      have h0 := hs 0 k rfl
      rw [Nat.add_zero] at h0
      cases k with
      | inl i =>
        obtain ⟨t, rfl⟩ := r1
        have e : sh n = false := by
          cases e : sh n with
          | false => rfl
          | true =>
            obtain ⟨x, hx⟩ := h0.mp e
            cases hx
        unfold tupItems
        rw [if_neg (by rw [e]; exact Bool.false_ne_true), ih]
        rfl
      | inr x =>
        obtain ⟨t, rfl⟩ := r1
        have e : sh n = true := h0.mpr ⟨x, rfl⟩
        unfold tupItems
        rw [if_pos e, ih]
        rfl
/-- v is a tuple of these keys -/
def IsT (h : Heap) (v : Value) (ks : List Key) : Prop := ∃ a o us n, v = .ref a ∧ h.get? a = some o ∧ o.cls = .type "tuple" ∧ o.data = .seq us n ∧ Vals (ks.map kV) us.toList
theorem IsT.keeps {h h' : Heap} {v : Value} {ks : List Key} (x : IsT h v ks) (k : ∀ b o, h.get? b = some o → o.cls = .type "tuple" → h'.get? b = some o) : IsT h' v ks := by
  obtain ⟨a, o, us, n, e, ho, hc, hd, r⟩ := x
  exact ⟨a, o, us, n, e, k _ _ ho hc, hc, hd, r⟩
theorem IsT.key {h : Heap} {v : Value} {ks : List Key} {sh : Nat → Bool} (x : IsT h v ks) (s : Shp sh ks) : tupKey h sh v = some (ks.map ik) := by
  obtain ⟨a, o, us, n, rfl, ho, hc, hd, r⟩ := x
  unfold tupKey
  simp only [ho, hd]
  exact items_key 0 r fun i k e => by
    rw [Nat.zero_add]
    exact s.2 i k e
theorem IsT.plc {h : Heap} {v : Value} {ks : List Key} {sh : Nat → Bool} (x : IsT h v ks) (s : Shp sh ks) : plc h sh v = ks.map ik := by
  unfold Qst.plc
  rw [x.key s]
  rfl
theorem IsT.tup {h : Heap} {v : Value} {ks : List Key} {sh : Nat → Bool} (x : IsT h v ks) (s : Shp sh ks) : ∃ f, TupOf h sh v f := by
  obtain ⟨a, o, us, n, rfl, ho, hc, hd, r⟩ := x
  cases ks with
  | nil => exact absurd rfl s.1
  | cons k ks =>
    have h0 := s.2 0 k rfl
    generalize hu : us.toList = l at r
    cases r with
    | @cons a f l1 l2 r1 r2 =>
      refine ⟨f, a, o, us, n, rfl, ho, hc, hd, ?_, fun e => ?_, fun e => ?_⟩
      · rw [← Array.getElem?_toList, hu]
        rfl
      · cases k with
        | inl i =>
          obtain ⟨t, rfl⟩ := r1
          exact ⟨i, t, rfl⟩
        | inr x =>
          have := h0.mpr ⟨x, rfl⟩
          rw [e] at this
          cases this
      · obtain ⟨x, rfl⟩ := h0.mp e
        obtain ⟨t, rfl⟩ := r1
        exact ⟨x, t, rfl⟩
theorem tups_of {h : Heap} {sh : Nat → Bool} : ∀ (vs : List Value), (∀ v ∈ vs, ∃ ks, IsT h v ks ∧ Shp sh ks) → ∃ fs, TupsOf h sh vs fs ∧ fs.length = vs.length
  | [], _ => ⟨[], .nil, rfl⟩
  | v :: vs, H => by
    obtain ⟨ks, x, s⟩ := H v List.mem_cons_self
    obtain ⟨f, t⟩ := x.tup s
    obtain ⟨fs, ts, hl⟩ := tups_of vs fun u hu => H u (List.mem_cons_of_mem _ hu)
    exact ⟨f :: fs, .cons t ts, by rw [List.length_cons, List.length_cons, hl]⟩
section
variable {prog : Program} {w : World} {A : Around} {E : Value → Shared → Prop} {s : Shared}
theorem sortable {a : Addr} {vs : List Value} {sh : Nat → Bool} {h0 : Heap} (h2 : 2 ≤ vs.length) (hp : ∀ v ∈ vs, ∃ ks, IsT h0 v ks ∧ IsT s.heap v ks ∧ Shp sh ks) (ha : ∀ o, s.heap.get? a = some o → o.cls ≠ .type "tuple") : SortableO prog w A s a vs (ltv h0 sh) := by
  intro h' keep
  have hp' : ∀ v ∈ vs, ∃ ks, IsT h0 v ks ∧ IsT h' v ks ∧ Shp sh ks := fun v hv => by
    obtain ⟨ks, x0, x, sp⟩ := hp v hv
    exact ⟨ks, x0, x.keeps fun b o e c => keep b o (fun z => by subst z; exact ha o e c) e, sp⟩
  obtain ⟨fs, ts, hl⟩ := tups_of (h := h') vs fun v hv => by
    obtain ⟨ks, _, x, sp⟩ := hp' v hv
    exact ⟨ks, x, sp⟩
  refine ⟨tuples' true, fun Q E hq => tup_kind (s := { s with heap := h' }) (by omega) ts hq, ?_⟩
  intro p q hm hm'
  obtain ⟨k1, x0, x1, s1⟩ := hp' _ hm
  obtain ⟨k2, y0, y1, s2⟩ := hp' _ hm'
  refine tup_ltAt (s := { s with heap := h' }) true A _ p.1 q.1 _ _ (x1.key s1) (y1.key s2) ⟨rfl, ?_⟩
  show lexLt itemOrd (k1.map ik) (k2.map ik) = ltv h0 sh p.1 q.1
  unfold ltv
  rw [x0.plc s1, y0.plc s2]
/-- sorted(l) of such tuples -/
theorem sorted_t {l : Addr} {vs : List Value} {sh : Nat → Bool} {Q : Value → Shared → Prop} (hl : s.heap.IsList l vs.toArray) (hz : vs.length ≤ sizeLine) (hp : ∀ v ∈ vs, ∃ ks, IsT s.heap v ks ∧ Shp sh ks)
    (h : ∀ (h' : Heap) (d : Addr) (out : List Value), Srtd (ltv s.heap sh) out → Stb (ltv s.heap sh) out vs → (∀ b o, s.heap.get? b = some o → h'.get? b = some o) → s.heap.objs.size ≤ d → (∃ n, h'.get? d = some (seqObj "list" out.toArray n)) → Q (.ref d) { s with heap := h' }) :
    wpAny (model prog w) A (call (.builtin "sorted") [.ref l]) Q E s := by
  refine sorted_ord (lex_swo (plc s.heap sh)) hl hz (fun h2 h₁ a ha kk => ?_) fun out hs hb => h _ _ out hs hb (fun b o e => sortedAll_old e) (Nat.le_succ _) (sortedAll_at s.heap vs out.toArray)
  refine sortable (s := { s with heap := h₁ }) h2 (fun v hm => ?_) fun o e => ?_
  · obtain ⟨ks, x, sp⟩ := hp v hm
    exact ⟨ks, x, x.keeps fun b o e _ => (kk b o e).2, sp⟩
  · have e' : some o = some (seqObj "list" vs.toArray 0) := e.symm.trans ha
    cases e'
    intro c
    exact absurd (Value.type.inj c) (by decide)
end
/-- sorted(xs): xs a list of tuples of ints and texts -/
def rSortK (K : PySem.W.Frag) : List V → Hp → VK → Prop := fun vs H Q => ∃ (a : Addr) (xs : List (Addr × List Key)) (sh : Nat → Bool), vs = [V.ref a] ∧ SqL K H a (xs.map fun x => V.ref x.1) ∧ (∀ x ∈ xs, H x.1 = some (.tup (x.2.map kV)) ∧ Shp sh x.2) ∧
  ∀ (ys : List (Addr × List Key)) (p : Addr), ys.Perm xs → ys.Pairwise (fun x y => ltK y.2 x.2 = false) → H p = none → Q (.ref p) (upd H p (.lst (ys.map fun x => V.ref x.1)))
theorem ref_vals : ∀ {xs : List (Addr × List Key)} {us : List Value}, Vals (xs.map fun x => V.ref x.1) us → us = xs.map fun x => Value.ref x.1
  | [], _, .nil => rfl
  | x :: xs, _, .cons r t => by
    have r : _ = Value.ref x.1 := r
    rw [ref_vals t, r]
    rfl
theorem vals_ref : ∀ (xs : List (Addr × List Key)), Vals (xs.map fun x => V.ref x.1) (xs.map fun x => Value.ref x.1)
  | [] => .nil
  | x :: xs => .cons rfl (vals_ref xs)
section
variable {X : Cx}
theorem isT_of {H : Hp} {h : Heap} (ok : HOk X.prog X.w H h) {a : Addr} {ks : List Key} (e : H a = some (.tup (ks.map kV))) : IsT h (.ref a) ks := by
  obtain ⟨_, its, r, o, h1, h2, n, h3⟩ := (show ObjOk X.prog X.w H h a (.tup (ks.map kV)) from ok a _ e)
  exact ⟨a, o, its.toArray, n, rfl, h1, h2, h3, r⟩
theorem cr_sortK : CallR X (.builtin "sorted") (rSortK X.K) := by
  intro pins s σ H vs us Q I r h
  obtain ⟨a, xs, sh, rfl, hs, hx, q⟩ := h
  obtain ⟨its, rv, hl, hz⟩ := I.list hs
  obtain ⟨u, rfl, ru⟩ := vals1 r
  obtain rfl : u = Value.ref a := ru
  obtain rfl := ref_vals rv
  have ist : ∀ x ∈ xs, IsT s.heap (.ref x.1) x.2 ∧ Shp sh x.2 := fun x hm => ⟨isT_of I.hok (hx x hm).1, (hx x hm).2⟩
  refine sorted_t (sh := sh) hl.isList (by rw [← rv.length]; exact hz) (fun v hv => ?_) fun h' d out h1 h2 kp hd hn => ?_
  · obtain ⟨x, hm, rfl⟩ := List.mem_map.mp hv
    exact ⟨x.2, ist x hm⟩
  · obtain ⟨ys, py, ey⟩ := perm_lift (fun x : Addr × List Key => Value.ref x.1) h2.perm xs rfl
    obtain ⟨n, hn⟩ := hn
    have pw : ys.Pairwise fun x y => ltK y.2 x.2 = false := by
      rw [← ey] at h1
      refine List.Pairwise.imp_of_mem (fun {x y} hx' hy' e => ?_) (List.pairwise_map.mp h1)
      have e : ltv s.heap sh (.ref y.1) (.ref x.1) = false := e
      have i1 := ist x (py.mem_iff.mp hx')
      have i2 := ist y (py.mem_iff.mp hy')
      unfold ltv at e
      rw [i1.1.plc i1.2, i2.1.plc i2.2] at e
      exact e
    refine ⟨.ref d, upd H d (.lst (ys.map fun x => V.ref x.1)), I.laid (t' := s.toks) kp hd ⟨?_, out, n, by rw [← ey]; exact vals_ref ys, hn⟩, rfl, q ys d py pw (I.hok.fresh hd)⟩
    rw [List.length_map, py.length_eq]
    have := hz
    rw [List.length_map] at this
    exact this
end
end Qst
namespace Qst
open PySem PySem.Spec PyProof.Rows L2 SrtO PySem.W
section
variable {X : Cx}
/-- d.items() as a value -/
def rItems : V → List V → Hp → VK → Prop := fun x xs H Q => ∃ (a : Addr) (kvs : List (Key × V)), x = .ref a ∧ xs = [] ∧ H a = some (.dK kvs) ∧ ∀ p, H p = none → Q (.ref p) (L2.upd H p (DX.itemsO p a))
theorem mt_items : MtR X "dict.items" rItems := by
  intro pins s σ H x xs v us Q I rx rxs h
  obtain ⟨a, kvs, rfl, rfl, ha, q⟩ := h
  cases rx
  cases rxs
  obtain ⟨_, hd, xs', _, o, es, ep, ho, hx, hdat, _⟩ := dk_of I.hok ha
  refine DT.callItems (es := es) (ep := ep) hd ⟨o, ho, hx, hdat⟩ ?_
  refine ⟨.ref s.heap.objs.size, _, I.laid (t' := s.toks) (fun b u e => Heap.get?_push_of_some _ e) (Nat.le_refl _) (DX.itemsO_ok (Heap.get?_push_size _ rfl)), rfl, q _ (I.hok.fresh (Nat.le_refl _))⟩
end
end Qst
namespace Qst
open PySem PySem.Spec PyProof.Rows L2 SrtO PySem.W
/-- what stands side by side -/
theorem pairs_at {P : Program} {w : World} {es : List DictEntry} {vs : List (Key × Value)} (h : Pairs (mixKind P w) es vs) : ∀ {j : Nat} {e : DictEntry}, es[j]? = some e → ∃ v, vs[j]? = some v ∧ keyIs v.1 e.key = true ∧ e.val = v.2 := by
  induction h with
  | nil => intro j e hj; simp at hj
  | cons h1 h2 _ ih =>
    intro j e hj
    cases j with
    | zero =>
      obtain rfl : _ = e := by simpa using hj
      exact ⟨_, rfl, h1, h2⟩
    | succ j =>
      obtain ⟨v, hv, k⟩ := ih (j := j) (e := e) (by simpa using hj)
      exact ⟨v, by simpa using hv, k⟩
theorem paired_at {α β : Type} {F : α → β → Prop} : ∀ {l : List α} {m : List β} {j : Nat} {x : β}, Paired F l m → m[j]? = some x → ∃ y, l[j]? = some y ∧ F y x
  | _, _, j, x, .nil, h => by simp at h
  | _, _, 0, x, .cons (a := y) f _, h => by
    obtain rfl : _ = x := by simpa using h
    exact ⟨y, rfl, f⟩
  | _, _, j + 1, x, .cons _ t, h => by
    obtain ⟨y, h1, h2⟩ := paired_at (j := j) t (by simpa using h)
    exact ⟨y, by simpa using h1, h2⟩
section
variable {X : Cx}
/-- sorted(d.items()): the pairs are new -/
def rSortItems : List V → Hp → VK → Prop := fun vs H Q => ∃ (p a : Addr) (kvs : List (Key × Key)) (sh : Nat → Bool), vs = [.ref p] ∧ H p = some (DX.itemsO p a) ∧ H a = some (.dK (kvs.map fun e => (e.1, kV e.2))) ∧ (∀ e ∈ kvs, Shp sh [e.1, e.2]) ∧
  ∀ (H' : Hp) (l : Addr) (ps : List (Addr × List Key)), (∀ b o, H b = some o → H' b = some o) → (ps.map (·.2)).Perm (kvs.map fun e => [e.1, e.2]) → ps.Pairwise (fun x y => ltK y.2 x.2 = false) → H l = none → H' l = some (.lst (ps.map fun z => V.ref z.1)) → (∀ z ∈ ps, H' z.1 = some (.tup (z.2.map kV))) → Q (.ref l) H'
theorem cr_sortItems (hc : X.calm = true) : CallR X (.builtin "sorted") rSortItems := by
  intro pins s σ H xs us Q I r h
  obtain ⟨p, a, kvs, sh, rfl, hp, ha, hsh, q⟩ := h
  obtain rfl := Vals.ref1 r
  have view : s.heap.IsItemsView p a := (show ObjOk X.prog X.w H s.heap p (DX.itemsO p a) from I.hok p _ hp).1
  obtain ⟨z, hd, vs, rel, o, es, ep, ho, hx, hdat, _, prs, _⟩ := dk_of I.hok ha
  have n1 : kvs.length = vs.length := by
    have := Paired.length rel
    rw [List.length_map] at this
    exact this
  have n2 : es.size = vs.length := by
    rw [← Array.length_toList]
    exact prs.length
  have hh : X.A.handled = none := I.ok.hd hc
  have small : es.size ≤ sizeLine := by
    rw [List.length_map] at z
    omega
  refine DT.sortedI (es := es) (ep := ep) hh view ⟨o, ho, hx, hdat⟩ small fun h' tk as hk hlt hl made => ?_
  have nd : as.Nodup := made.rise.imp fun h => Nat.ne_of_lt h
  -- the new pairs
  have pr : ∀ (j : Nat) (b : Addr), as[j]? = some b → ∃ e : Key × Key, kvs[j]? = some e ∧ IsT h' (.ref b) [e.1, e.2] := by
    intro j b hj
    obtain ⟨en, he, hg⟩ := made.pairs j b hj
    obtain ⟨v, hv, k1, k2⟩ := pairs_at prs (j := j) (e := en) (by rw [Array.getElem?_toList]; exact he)
    obtain ⟨y, hy, r1, r2⟩ := paired_at rel hv
    rw [List.getElem?_map] at hy
    cases hkj : kvs[j]? with
    | none =>
      rw [hkj] at hy
      cases hy
    | some e =>
      rw [hkj] at hy
      obtain rfl : (e.1, kV e.2) = y := Option.some.inj hy
      refine ⟨e, rfl, b, _, #[en.key, en.val], 0, rfl, hg, rfl, rfl, .cons (keyIs_rel ?_) (.cons ?_ .nil)⟩
      · rw [show e.1 = v.1 from r1]
        exact k1
      · rw [k2]
        exact r2
  have hob : (h'.push { cls := .type "list", data := .seq (as.map Value.ref).toArray }).get? h'.objs.size = some (seqObj "list" (as.map Value.ref).toArray 0) := Heap.get?_push_size _ rfl
  generalize hh2 : h'.push { cls := .type "list", data := .seq (as.map Value.ref).toArray } = h2 at hob ⊢
  have ka : ∀ b o, h'.get? b = some o → h2.get? b = some o := fun b o e => by
    rw [← hh2]
    exact Heap.get?_push_of_some _ e
  have ne0 : ∀ b o, h'.get? b = some o → b ≠ h'.objs.size := fun b o e => Nat.ne_of_lt (Heap.lt_size e)
  have at_ : ∀ v ∈ as.map Value.ref, ∃ e : Key × Key, e ∈ kvs ∧ IsT h' v [e.1, e.2] := by
    intro v hv
    obtain ⟨b, hb, rfl⟩ := List.mem_map.mp hv
    obtain ⟨j, hj⟩ := List.mem_iff_getElem?.mp hb
    obtain ⟨e, he, x⟩ := pr j b hj
    exact ⟨e, List.mem_of_getElem? he, x⟩
  refine wpAny_call_entry PyProof.Rows.slot_list_sort ⟨_, hob, rfl⟩ PyProof.Rows.entry_list_sort
    (list_sort_ord (s := { s with heap := h2, toks := tk }) (lex_swo (plc h' sh)) hob (by rw [List.length_map]; omega) (fun h2' => ?_) fun out o1 o2 => ⟨.none, rfl, ?_⟩) (PyProof.Rows.args_list_sort _)
  · refine sortable (s := { s with heap := h2, toks := tk }) h2' (fun v hv => ?_) fun o e => ?_
    · obtain ⟨e, he, x⟩ := at_ v hv
      exact ⟨_, x, x.keeps fun b o k _ => ka b o k, hsh e he⟩
    · have e' : some o = some (seqObj "list" (as.map Value.ref).toArray 0) := e.symm.trans hob
      cases e'
      intro c
      exact absurd (Value.type.inj c) (by decide)
  · show EP X pins σ Q (.ref h'.objs.size) { s with heap := sortedHeap h2 h'.objs.size (as.map Value.ref) out.toArray, toks := tk }
    -- the pairs with what they hold
    have ex : ∃ xs : List (Addr × List Key), xs.map (·.1) = as ∧ xs.map (·.2) = kvs.map (fun e => [e.1, e.2]) ∧ ∀ x ∈ xs, IsT h' (.ref x.1) x.2 := by
      refine ⟨as.zip (kvs.map fun e => [e.1, e.2]), ?_, ?_, fun x hx => ?_⟩
      · exact List.map_fst_zip (by rw [List.length_map]; omega)
      · exact List.map_snd_zip (by rw [List.length_map]; omega)
      · obtain ⟨j, hj⟩ := List.mem_iff_getElem?.mp hx
        obtain ⟨j1, j2⟩ := List.getElem?_zip_eq_some.mp hj
        obtain ⟨e, he, t⟩ := pr j x.1 j1
        rw [List.getElem?_map, he] at j2
        rw [← show [e.1, e.2] = x.2 from Option.some.inj j2]
        exact t
    obtain ⟨xs, ex1, ex2, ist⟩ := ex
    obtain ⟨ps, pp, ep'⟩ := perm_lift (fun x : Addr × List Key => Value.ref x.1) o2.perm xs (by rw [← ex1, List.map_map]; rfl)
    have spx : ∀ x ∈ xs, Shp sh x.2 := fun x hx => by
      have := List.mem_map_of_mem (f := Prod.snd) hx
      rw [ex2] at this
      obtain ⟨e, he, e2⟩ := List.mem_map.mp this
      rw [← e2]
      exact hsh e he
    have pw : ps.Pairwise fun x y => ltK y.2 x.2 = false := by
      rw [← ep'] at o1
      refine List.Pairwise.imp_of_mem (fun {x y} hx' hy' e => ?_) (List.pairwise_map.mp o1)
      have mx := pp.mem_iff.mp hx'
      have my := pp.mem_iff.mp hy'
      have e : lexLt itemOrd (plc h' sh (.ref y.1)) (plc h' sh (.ref x.1)) = false := e
      rw [(ist x mx).plc (spx x mx), (ist y my).plc (spx y my)] at e
      exact e
    have kF : ∀ b o, b ≠ h'.objs.size → h2.get? b = some o → (sortedHeap h2 h'.objs.size (as.map Value.ref) out.toArray).get? b = some o := fun b o hb e => (PyProof.Rows.sortedHeap_old hb (Heap.lt_size e)).trans e
    have kS : ∀ b o, s.heap.get? b = some o → (sortedHeap h2 h'.objs.size (as.map Value.ref) out.toArray).get? b = some o := fun b o e => kF b o (ne0 _ _ (hk b o e)) (ka b o (hk b o e))
    obtain ⟨eF, heF⟩ := PyProof.Rows.sortedHeap_at (vs := as.map Value.ref) (out := out.toArray) hob
    have I1 : Inv X pins σ H { s with heap := sortedHeap h2 h'.objs.size (as.map Value.ref) out.toArray, toks := tk } := I.kept (t' := tk) kS
    have hn0 : H h'.objs.size = none := I.hok.fresh (Nat.le_of_lt hlt)
    have hlen : (ps.map fun z => V.ref z.1).length ≤ sizeLine := by
      have e := pp.length_eq
      have e2 : xs.length = as.length := by rw [← ex1, List.length_map]
      rw [List.length_map]
      omega
    have I2 : Inv X pins σ (L2.upd H h'.objs.size (.lst (ps.map fun z => V.ref z.1))) { s with heap := sortedHeap h2 h'.objs.size (as.map Value.ref) out.toArray, toks := tk } :=
      I1.take (t' := tk) (fun b ob _ e => e) (I.fpOk (Nat.le_of_lt hlt) hn0) ⟨hlen, out, eF, by rw [← ep']; exact vals_ref ps, heF⟩
    obtain ⟨H2, I3, g, qt⟩ := DX.takeT (P := fun b vs => ∃ x ∈ xs, x.1 = b ∧ vs = x.2.map kV) I as _ I2 nd fun b hb => by
      rw [← ex1] at hb
      obtain ⟨x, hx', rfl⟩ := List.mem_map.mp hb
      have hb' : x.1 ∈ as := by
        rw [← ex1]
        exact List.mem_map_of_mem hx'
      have hbl : s.heap.objs.size ≤ x.1 := Nat.le_of_lt (made.above _ hb')
      obtain ⟨a', o', us, n', e', ho', hc', hd', rv⟩ := ist x hx'
      obtain rfl : x.1 = a' := Value.ref.inj e'
      have len2 : (x.2.map kV).length ≤ sizeLine := by
        have hm := List.mem_map_of_mem (f := Prod.snd) hx'
        rw [ex2] at hm
        obtain ⟨e, _, e2⟩ := List.mem_map.mp hm
        rw [← e2, sizeLine_eq]
        show 2 ≤ _
        omega
      refine ⟨hbl, ?_, x.2.map kV, ⟨x, hx', rfl, rfl⟩, fun H3 => ⟨len2, us.toList, rv, o', kF _ _ (ne0 _ _ ho') (ka _ _ ho'), hc', n', by rw [hd']⟩⟩
      rw [upd_ne (ne0 _ _ ho')]
      exact I.hok.fresh hbl
    refine ⟨.ref h'.objs.size, H2, I3, rfl, q H2 _ ps (fun b o e => g b o (by rw [upd_ne (ne_of_none e hn0)]; exact e)) ?_ pw hn0 (g _ _ upd_same) fun z hz => ?_⟩
    · rw [← ex2]
      exact pp.map _
    · have mz := pp.mem_iff.mp hz
      obtain ⟨vs', ⟨x, hx', e1, rfl⟩, hH⟩ := qt z.1 (by rw [← ex1]; exact List.mem_map_of_mem mz)
      -- one address, one tuple
      have ex : x = z := by
        obtain ⟨i, hi⟩ := List.mem_iff_getElem?.mp hx'
        obtain ⟨j, hj⟩ := List.mem_iff_getElem?.mp mz
        have hi' : as[i]? = some x.1 := by rw [← ex1, List.getElem?_map, hi]; rfl
        have hj' : as[j]? = some z.1 := by rw [← ex1, List.getElem?_map, hj]; rfl
        have : i = j := (List.getElem?_inj (List.getElem?_eq_some_iff.mp hi').1 nd).mp (by rw [hi', hj', e1])
        subst this
        rw [hi] at hj
        exact Option.some.inj hj
      rw [← ex]
      rw [← ex] at hH
      exact hH
end
end Qst
set_option Elab.async false
set_option linter.all false
set_option maxRecDepth 100000
set_option maxHeartbeats 4000000
/-! def __init__(self, *words): super().__init__(*words) -/
namespace Qu
open PySem PySem.Spec PyProof.Rows L2 NdefX
section
open PySem.W
variable {prog : Program} {w : World} {M : Model} {A : Around} {E : Value → Shared → Prop} {h : Heap} {g : Array GenState} {d : Drawn} {t : Nat} {os : OsState}
end
section
variable {P : Program} {w : World} {K : PySem.W.Frag} {mg : Str → Option Value} {base : Heap} {F : NF} {N : List Str} {f cc D CI f2 : Addr} {k : Nat} {sp2 : Sp} {doc pm ctv oc ccl cl' : Value} {od cdd cld : Option Addr} {osl ccs csl : Array (Option Value)} {vsC : Array Value} {file : Str} {tf : Tok} {cdD cdI : ClassData} {p0 p1 apos pw ps pos ep : Pos} {ar : Arg}
end
end Qu
set_option Elab.async false
set_option linter.all false
set_option maxRecDepth 100000
set_option maxHeartbeats 4000000
/-! def f(self, **d) called with keywords; instances made so. -/
namespace Qkw
open PySem PySem.Spec PyProof.Rows L2 Qh StX PySem.W
/-- one name more -/
theorem put_one {prog : Program} {w : World} {A : Around} {E : Value → Shared → Prop} {s : Shared} {a : Addr} {es : List DictEntry} {n : Nat} {k : Str} {v : Value} {Q : Unit → Shared → Prop} (ho : s.heap.get? a = some (dictOf es n))
    (new : ∀ e ∈ es, e.key.isStr k = false) (plain : ∀ e ∈ es, e.refKey = false)
    (h : ∀ h', h'.get? a = some (dictOf (es ++ [⟨PyData.keyHash w.params k, .str k s.toks, v⟩]) (n + 1)) → (∀ b, b ≠ a → h'.get? b = s.heap.get? b) → h'.objs.size = s.heap.objs.size → Q () { s with heap := h', toks := s.toks + 1 }) :
    wpAny (model prog w) A (nsSet a k v) Q E s := by
  have e1 : es.any (·.key.isStr k) = false := List.any_eq_false.mpr fun e he => by
    rw [new e he]
    exact Bool.false_ne_true
  have e2 : es.any (·.refKey) = false := List.any_eq_false.mpr fun e he => by
    rw [plain e he]
    exact Bool.false_ne_true
  have c : aRefKeyMayBeTheName k es.toArray = false := by
    rw [aRefKeyMayBeTheName_at, ← Array.any_toList, ← Array.any_toList]
    show (!es.any (·.key.isStr k) && es.any (·.refKey)) = false
    rw [e2, Bool.and_false]
  have put : Obj.putName k (PyData.keyHash w.params k) (.str k s.toks) v (dictOf es n) = dictOf (es ++ [⟨PyData.keyHash w.params k, .str k s.toks, v⟩]) (n + 1) := by
    rw [putName_dict, putL_new new]
    show dictOf _ (if es.any (·.key.isStr k) then n else n + 1) = _
    rw [e1, if_neg Bool.false_ne_true]
  unfold nsSet
  refine wpAny_bind (wpAny_bind (wpAny_askSetting (wpAny_pure (wpAny_bind (wpAny_mkText (wpAny_bind (wpAny_loadPart ho ?_)))))))
  dsimp only
  rw [c]
  refine wpAny_updatePart ho ?_
  show Q () { s with heap := s.heap.update a (Obj.putName k (PyData.keyHash w.params k) (.str k s.toks) v), toks := s.toks + 1 }
  refine h _ ?_ (fun b hb => Heap.get?_update_ne _ _ _ _ hb) (Heap.size_update _ _ _)
  rw [← put]
  exact Heap.get?_update_self _ ho (by rw [put]; rfl)
theorem put_all {prog : Program} {w : World} {A : Around} {E : Value → Shared → Prop} {a : Addr} {Q : PUnit → Shared → Prop} : ∀ (ex : List (Str × Value)) (s : Shared) (es : List DictEntry) (n : Nat), s.heap.get? a = some (dictOf es n) →
    (∀ e ∈ es, ∀ x ∈ ex, e.key.isStr x.1 = false) → (∀ e ∈ es, e.refKey = false) → (ex.map (·.1)).Nodup →
    (∀ h', h'.get? a = some (dictOf (es ++ kwEs w.params s.toks ex) (n + ex.length)) → (∀ b, b ≠ a → h'.get? b = s.heap.get? b) → h'.objs.size = s.heap.objs.size → Q ⟨⟩ { s with heap := h', toks := s.toks + ex.length }) →
    wpAny (model prog w) A (forIn ex PUnit.unit fun x _ => (nsSet a x.1 x.2 >>= fun _ => pure (ForInStep.yield PUnit.unit))) Q E s
  | [], s, es, n, ho, _, _, _, h => by
    rw [List.forIn_nil]
    refine wpAny_pure (h s.heap ?_ (fun _ _ => rfl) rfl)
    show _ = some (dictOf (es ++ []) n)
    rw [List.append_nil]
    exact ho
  | x :: r, s, es, n, ho, new, plain, nd, h => by
    obtain ⟨nd1, nd2⟩ := List.nodup_cons.mp (show (x.1 :: r.map (·.1)).Nodup from nd)
    rw [List.forIn_cons]
    refine wpAny_bind (wpAny_bind (put_one ho (fun e he => new e he x List.mem_cons_self) plain fun h' g1 g2 g3 => wpAny_pure ?_))
    refine put_all r { s with heap := h', toks := s.toks + 1 } _ _ g1 (fun e he y hy => ?_) (fun e he => ?_) nd2 fun h'' k1 k2 k3 => ?_
    · rcases List.mem_append.mp he with he | he
      · exact new e he y (List.mem_cons_of_mem _ hy)
      · rw [List.mem_singleton.mp he]
        exact beq_eq_false_iff_ne.mpr fun z => nd1 (by rw [z]; exact List.mem_map_of_mem hy)
    · rcases List.mem_append.mp he with he | he
      · exact plain e he
      · rw [List.mem_singleton.mp he]
        rfl
    · rw [List.append_assoc] at k1
      have t1 : s.toks + 1 + r.length = s.toks + (r.length + 1) := by omega
      have t2 : n + 1 + r.length = n + (r.length + 1) := by omega
      show Q ⟨⟩ { s with heap := h'', toks := s.toks + 1 + r.length }
      rw [t1]
      rw [t2] at k1
      exact h h'' k1 (fun b hb => (k2 b hb).trans (g2 b hb)) (k3.trans g3)
/-- the pairs of a call's keywords -/
def kwKvs (ks : List Str) (zs : List V) : List (Key × V) := (ks.map Sum.inr).zip zs
theorem kw_kv : ∀ {ks : List Str} {zs : List V} {us : List Value}, Vals zs us → KV (kwKvs ks zs) ((ks.map Sum.inr).zip us)
  | [], _, _, _ => .nil
  | _ :: _, _, _, .nil => .nil
  | k :: ks, _, _, .cons r t => .cons ⟨rfl, r⟩ (kw_kv (ks := ks) t)
theorem kw_pairs {P : Program} {w : World} : ∀ (ks : List Str) (us : List Value) (t : Tok), Pairs (mixKind P w) (kwEs w.params t (ks.zip us)) ((ks.map Sum.inr).zip us)
  | [], _, _ => .nil
  | _ :: _, [], _ => .nil
  | k :: ks, u :: us, t => .cons (keyIs_str k t) rfl (kw_pairs ks us (t + 1))
theorem zip_keys {α β : Type} : ∀ (ks : List α) (us : List β), us.length = ks.length → (ks.zip us).map (·.1) = ks
  | [], _, _ => rfl
  | k :: ks, [], h => by simp at h
  | k :: ks, u :: us, h => by
    show k :: (ks.zip us).map (·.1) = _
    rw [zip_keys ks us (by simpa using h)]
theorem env0_at {P : Program} {w : World} {K : PySem.W.Frag} {mg : Str → Option Value} {base : Heap} {A : Around} {outer : List Env} {s : Shared} {H : Hp} {h' : Heap} {t : Nat} {u : HO} (e0 : Env0 P w K mg base A outer s H) (kp : ∀ b o, s.heap.get? b = some o → h'.get? b = some o) (sz : h'.objs.size = s.heap.objs.size + 1)
    (new : ObjOk P w (L2.upd H s.heap.objs.size u) h' s.heap.objs.size u) : Env0 P w K mg base A outer { s with heap := h', toks := t } (L2.upd H s.heap.objs.size u) := by
  refine ⟨e0.frames, e0.mod, fun b x e => ⟨kp b x (e0.bs b x e).1, ?_⟩, ?_, Heap.FunFrames.of_keeps (fun b x e _ => ⟨x, kp b x e, rfl⟩) e0.funs, fun b hb => ?_, e0.hok.laid kp (Nat.le_refl _) new, e0.bare⟩
  · rw [upd_ne (Nat.ne_of_lt (Heap.lt_size (e0.bs b x e).1))]
    exact (e0.bs b x e).2
  · show base.objs.size ≤ h'.objs.size
    rw [sz]
    exact Nat.le_succ_of_le e0.bsz
  · obtain ⟨_, x, hx, _⟩ := e0.funs.mem hb
    rw [upd_ne (Nat.ne_of_lt (Heap.lt_size hx))]
    exact e0.frf b hb
/-- the promise of such a def, called with the keywords ks -/
def FnRW (P : Program) (w : World) (K : PySem.W.Frag) (mg : Str → Option Value) (base : Heap) (CX : CXT) (k : Nat) (f : Addr) (ks : List Str) (sp : Sp) : Prop :=
  ∀ (A : Around) (outer : List Env) (s : Shared) (H : Hp) (u : Value) (us : List Value) (x : V) (zs : List V) (Q : VK) (E : XK), Room k A → Env0 P w K mg base A outer s H → RelV x u → Vals zs us → zs.length = ks.length → sp (x :: zs) H Q E →
    codeAny (model P w) A (.call (.ref f) ⟨[u], ks.zip us⟩) (CR CX outer P w H s Q E) s
section
variable {CX : CXT} {P : Program} {w : World} {K : PySem.W.Frag} {mg : Str → Option Value} {base : Heap} {k : Nat} {f : Addr} {name qual : Str} {params : Arguments} {body : List Stmt} {scope : Scope} {dV kV doc pm cdv ct oc : Value} {an od : Option Addr}
  {osl : Array (Option Value)} {N : List Str} {sp : Sp}
/-- what is asked of a call with the keywords ks -/
def spKw (ks : List Str) (sp : Sp) : Sp := fun vs H Q E => ∃ x zs, vs = x :: zs ∧ zs.length = ks.length ∧ ∀ p, H p = Option.none → sp [x, V.ref p] (L2.upd H p (.dK (kwKvs ks zs))) Q E
theorem fn_kw {p1 pk : Str} {ks : List Str} (nd : ks.Nodup) (few : ks.length ≤ 1000) (lk : K.lookup f = some ⟨oc, od, .func (PySem.W.fnOf name qual params body scope dV kV doc pm an cdv ct), osl⟩) (hcd : PySem.W.codeIn K cdv qual = true) (S : FnScope N [p1, pk] scope) (hCX : CXUp CX)
    (hb : ∀ (u : Value) (us : List Value), us.length = ks.length → bindArgs (PySem.W.fnOf name qual params body scope dV kV doc pm an cdv ct) ⟨[u], ks.zip us⟩ =
      ((alloc ({ cls := .type "dict", data := .dict #[] } : Obj) : Sem Addr) >>= fun d => forIn (ks.zip us) PUnit.unit (fun x _ => (nsSet d x.1 x.2 >>= fun _ => pure (ForInStep.yield PUnit.unit))) >>= fun _ => pure [(p1, u), (pk, Value.ref d)]))
    (hbody : ∀ (A : Around) (outer : List Env) (s : Shared) (H : Hp) (vs : List V) (Q : VK) (E : XK), Room k (A.deeper (envOfC qual scope s.heap.objs.size f cdv)) → sp vs H Q E →
      ∃ t, PSs (cxOf CX P w K mg base N qual scope f cdv A outer s H E) body t ∧ t { nx := fun _ H' => Q .non H', rt := Q } (start N vs) H) :
    FnRW P w K mg base CX (k + 1) f ks (spKw ks sp) := by
  intro A outer s H u us x zs Q E hr e0 rx rz hl hsp
  obtain ⟨x', zs', ev, _, want⟩ := hsp
  obtain ⟨rfl, rfl⟩ := List.cons.inj ev
  have lu : us.length = ks.length := by rw [← rz.length]; exact hl
  have free : H s.heap.objs.size = Option.none := e0.hok.fresh (Nat.le_refl _)
  refine run_bnd (ps := [p1, pk]) lk hcd S hr e0 (G := fun xs H2 => ∃ p, H p = Option.none ∧ xs = [x, V.ref p] ∧ H2 = L2.upd H p (.dK (kwKvs ks zs))) (fun A' Ex Q' h => ?_) ?_
  · rw [hb u us lu]
    refine wpAny_bind (wpAny_alloc ?_)
    refine wpAny_bind (put_all (ks.zip us) { s with heap := s.heap.push { cls := .type "dict", data := .dict #[] } } [] 0 (Heap.get?_push_size _ rfl) (fun e he => nomatch he) (fun e he => nomatch he) (by rw [zip_keys ks us lu]; exact nd) fun h' g1 g2 g3 => wpAny_pure ?_)
    rw [List.nil_append, Nat.zero_add] at g1
    have kp : ∀ b o, s.heap.get? b = some o → h'.get? b = some o := fun b o e => by
      rw [g2 b (Nat.ne_of_lt (Heap.lt_size e))]
      exact Heap.get?_push_of_some _ e
    have nr : ((((ks.map Sum.inr : List Key)).zip us).map (·.1)).Nodup := by
      rw [zip_keys (ks.map Sum.inr : List Key) us (by rw [List.length_map]; exact lu)]
      exact List.Pairwise.map _ (fun a b e z => e (Sum.inr.inj z)) nd
    have new : ObjOk P w (L2.upd H s.heap.objs.size (.dK (kwKvs ks zs))) h' s.heap.objs.size (.dK (kwKvs ks zs)) := by
      refine ⟨?_, beq_eq_false_iff_ne.mpr (Ne.symm (Nat.ne_of_lt (env0_big e0))), (ks.map Sum.inr).zip us, kw_kv rz, ?_⟩
      · unfold kwKvs
        rw [List.length_zip, List.length_map]
        exact Nat.le_trans (Nat.min_le_left _ _) (Nat.le_trans few (by decide))
      · refine ⟨_, (kwEs w.params s.toks (ks.zip us)).toArray, _, g1, ⟨rfl, rfl, rfl⟩, rfl, fun e he => ?_, by simpa using kw_pairs ks us s.toks, nr⟩
        obtain ⟨kk, u', hk, hh⟩ := kwEs_key _ _ e (by simpa using he)
        exact ⟨.inr kk, by rw [hk]; exact keyIs_str kk u', hh.trans rfl⟩
    have e1 := env0_at (t := s.toks + (ks.zip us).length) e0 kp (by rw [g3, Heap.size_push]) new
    have un : Un (frs outer) [] H (L2.upd H s.heap.objs.size (.dK (kwKvs ks zs))) s.heap h' := Un.laid kp (Nat.le_refl _) free
    exact h { s with heap := h', toks := s.toks + (ks.zip us).length } _ [x, V.ref s.heap.objs.size] [u, Value.ref s.heap.objs.size] e1 un rfl (fun e s' => hCX outer s H _ _ E e s' un kp rfl) (.cons rx (.cons rfl .nil)) rfl ⟨_, free, rfl, rfl⟩
  · rintro s2 H2 xs ⟨p, hp, rfl, rfl⟩ hr'
    exact hbody A outer s2 _ _ Q E hr' (want p hp)
end
end Qkw
namespace Qkw
open PySem PySem.Spec PyProof.Rows L2 Qh StX PySem.W Qi
/-- C(k = v, ..) -/
def tMakeW (C : Addr) (sp : Sp) (E : L2.St → XK) (tk : TA) : TE := fun σ H Q => tk σ H fun zs H2 => ∀ x dx, H2 x = Option.none → H2 dx = Option.none → dx ≠ x →
  sp (V.ref x :: zs) (L2.upd (L2.upd H2 dx (.own x)) x (.ins C dx [])) (fun v H3 => v = .non ∧ Q (.ref x) H3) (E σ)
section
variable {X : Cx} {W : WX} {k : Nat} {f C : Addr} {sp : Sp} {x : Str} {ks : List Str} {kws : List Keyword} {tkw : TA} {p pos : Pos}
theorem run_makeW {E : XK} {pins : List (Addr × Obj)} {σ : L2.St} {H : Hp} {s : Shared} {Q : VK} {us : List Value} {zs : List V} (M : Mk X.K C f) (F : FnRW X.prog X.w X.K X.mg X.base (L2.CX X.prog X.w) k f ks sp) (hr : Room (k + 1) X.A)
    (hx : ∀ (H2 : Hp) (s2 : Shared) (er : Value) (s' : Shared), Inv X pins σ H2 s2 → L2.CX X.prog X.w X.stack H2 s2 E er s' → X.xe er s') (I : Inv X pins σ H s) (r : Vals zs us) (hl : zs.length = ks.length)
    (h : ∀ x dx, H x = Option.none → H dx = Option.none → dx ≠ x → sp (V.ref x :: zs) (L2.upd (L2.upd H dx (.own x)) x (.ins C dx [])) (fun v H2 => v = .non ∧ Q (.ref x) H2) E) :
    wpAny (model X.prog X.w) X.A (call (.ref C) [] (ks.zip us)) (EP X pins σ Q) X.xe s := by
  have want := h (s.heap.objs.size + 1) s.heap.objs.size (I.hok.fresh (Nat.le_succ _)) (I.hok.fresh (Nat.le_refl _)) (Nat.ne_of_lt (Nat.lt_succ_self _))
  have J := Inv.made (C := C) I
  refine wpAny_call (make_map (f := f) I.kIn M.makes M.init (beq_iff_eq.mp M.fn) (codeAny_mono (F _ X.stack _ _ (Value.ref (s.heap.objs.size + 1)) us (V.ref (s.heap.objs.size + 1)) zs _ E (hr.make C [] (ks.zip us)) (J.env0.make C [] (ks.zip us)) rfl r hl want) ?_))
  rintro (er | fl) s' hq
  · exact hx _ _ er s' J hq
  · cases fl with
    | next => exact hq.elim
    | brk => exact hq.elim
    | cont => exact hq.elim
    | ret v' =>
      obtain ⟨v, H2, J2, rv, ev, q⟩ := J.after hq
      subst ev
      exact ⟨rv, .ref (s.heap.objs.size + 1), H2, J2, rfl, q⟩
theorem pe_makeW (M : Mk X.K C f) (F : FnRW X.prog X.w X.K X.mg X.base (L2.CX X.prog X.w) k f ks sp) (hr : Room (k + 1) X.A) (tk : Takes X W) (hm : X.mg x = some (.ref C)) (hkw : PK X kws tkw) (hn : kws.length = ks.length := by rfl) (hg : Gl X x := by rfl) (hdb : (x == ("__debug__" : Str)) = false := by decide)
    (hall : (backToKw pos (keywordEach kws X.env)).all (·.1.isSome) = true := by rfl) (hks : (backToKw pos (keywordEach kws X.env)).filterMap (·.1) = ks := by rfl)
    (hpl : ((backTo pos (starEach [] X.env)).any (·.1) || (backToKw pos (keywordEach kws X.env)).any (·.1.isNone)) = false := by rfl) :
    PE X (.Call (.Name x p) [] kws pos) (tMakeW C sp (WE W) fun σ H R => tkw σ H fun zs H2 => zs.length = ks.length ∧ R zs H2) := by
  constructor
  intro pins s σ H Q I h
  refine wpAny_Call_Name_kw (ld_glob I hg hm ?_ hdb)
  refine PySem.W.callWith_KW0 (h₀ := X.base) I.ok.mod.kin M.kp hall ?_ hpl
  refine thn (hkw.run pos pins s σ H _ I h) ?_
  rintro ws s2 ⟨zs, H2, I2, rz, hl, q2⟩
  refine ⟨I2.kIn, ?_⟩
  rw [hks]
  exact run_makeW M F hr (fun H3 s3 er s' J c => passAt tk σ pins H3 s3 er s' J c) I2 rz hl q2
/-- c(k = v, ..), the class held in the i-th slot -/
def tMakeWL (i : Nat) (C : Addr) (sp : Sp) (E : L2.St → XK) (tk : TA) : TE := fun σ H Q => σ[i]? = some (some (.ref C)) ∧ tMakeW C sp E tk σ H Q
theorem pe_makeWL {i : Nat} (M : Mk X.K C f) (F : FnRW X.prog X.w X.K X.mg X.base (L2.CX X.prog X.w) k f ks sp) (hr : Room (k + 1) X.A) (tk : Takes X W) (hN : X.N[i]? = some x) (hv : Vis X.env.scope x) (hkw : PK X kws tkw) (hdb : (x == ("__debug__" : Str)) = false := by decide) (hcd : (x == ("__classdict__" : Str)) = false := by decide)
    (hall : (backToKw pos (keywordEach kws X.env)).all (·.1.isSome) = true := by rfl) (hks : (backToKw pos (keywordEach kws X.env)).filterMap (·.1) = ks := by rfl)
    (hpl : ((backTo pos (starEach [] X.env)).any (·.1) || (backToKw pos (keywordEach kws X.env)).any (·.1.isNone)) = false := by rfl) :
    PE X (.Call (.Name x p) [] kws pos) (tMakeWL i C sp (WE W) fun σ H R => tkw σ H fun zs H2 => zs.length = ks.length ∧ R zs H2) := by
  constructor
  rintro pins s σ H Q I ⟨hs, h⟩
  refine wpAny_Call_Name_kw (thn ((pe_var (pos := p) hN hv hdb hcd).run pins s σ H (fun v H1 => v = .ref C ∧ H1 = H) I ⟨.ref C, hs, rfl, rfl⟩) fun u s1 ⟨v, H1, I1, r1, q1⟩ => ?_)
  obtain ⟨rfl, rfl⟩ := q1
  cases r1
  refine PySem.W.callWith_KW0 (h₀ := X.base) I1.ok.mod.kin M.kp hall ?_ hpl
  refine thn (hkw.run pos pins s1 σ _ _ I1 h) ?_
  rintro ws s2 ⟨zs, H2, I2, rz, hl, q2⟩
  refine ⟨I2.kIn, ?_⟩
  rw [hks]
  exact run_makeW M F hr (fun H3 s3 er s' J c => passAt tk σ pins H3 s3 er s' J c) I2 rz hl q2
end
end Qkw
set_option Elab.async false
set_option linter.all false
set_option maxRecDepth 100000
set_option maxHeartbeats 4000000
/-! C.m(..) of a classmethod, where errors may be wished for. -/
namespace Qcm
open PySem PySem.Spec PyProof.Rows L2 Qh Qi ClX
/-- C.m(e, ..) -/
def tCMethT (C : Addr) (sp : Sp) (E : L2.St → XK) (ta : TE) (t : TA) : TE := fun σ H Q => ta σ H fun x H1 => x = .ref C ∧ t σ H1 fun vs H2 => sp (.ref C :: vs) H2 Q (E σ)
section
variable {X : Cx} {W : WX} {k : Nat} {C p g : Addr} {mc : Value} {sp : Sp} {o e : Expr} {es : List Expr} {m : Str} {pos apos : Pos} {ta : TE} {t : TA} {pl : Sem Bool}
theorem run_cmT {pins : List (Addr × Obj)} {σ : L2.St} {H : Hp} {s : Shared} {q : Addr} {E : XK} {Q : VK} {us : List Value} {vs : List V} (F : FnR X.prog X.w X.K X.mg X.base (L2.CX X.prog X.w) k g sp) (hr : Room k X.A) (hx : ∀ er s', L2.CX X.prog X.w X.stack H s E er s' → X.xe er s')
    (I : Inv X ((q, PySem.W.methodObj (.ref g) (.ref C)) :: pins) σ H s) (r : Vals vs us) (h : sp (.ref C :: vs) H Q E) : wpAny (model X.prog X.w) X.A (call (.ref q) us) (EP X pins σ Q) X.xe s := by
  refine thn (Q := EP X ((q, PySem.W.methodObj (.ref g) (.ref C)) :: pins) σ Q) (wpAny_call (PySem.W.method_call (pin_at I) (codeAny_mono (F X.A X.stack s H (.ref C :: us) (.ref C :: vs) Q E hr I.env0 (.cons rfl r) h) fun r s' hq => ?_))) fun _ _ y => unpinE y
  cases r with
  | error e => exact hx e s' hq
  | ok fl =>
    cases fl with
    | next => exact hq.elim
    | brk => exact hq.elim
    | cont => exact hq.elim
    | ret v' => exact I.after hq
theorem pe_cmethT (he : PE X o ta) (r : CRead X.K C mc) (c : CMet X.K C mc m p g) (F : FnR X.prog X.w X.K X.mg X.base (L2.CX X.prog X.w) k g sp) (hr : Room k X.A) (tk : Takes X W) (ha : PA X (e :: es) t)
    (hst : starEach (e :: es) X.env = (false, eval e X.env) :: starEach es X.env := by rfl) (hpl : (backTo pos (starEach es X.env)).any (·.1) = false := by rfl)
    (ht : eval (.Call (.Attribute o m apos) (e :: es) [] pos) X.env = (do
      let ov ← eval o X.env
      standAt apos.atName
      let (f, first) ← holding [ov] (getMethod ov m pl)
      callWith pos f first (backTo pos (starEach (e :: es) X.env)) (backToKw pos (keywordEach [] X.env))) := by rfl) :
    PE X (.Call (.Attribute o m apos) (e :: es) [] pos) (tCMethT C sp (WE W) ta t) := by
  constructor
  intro pins s σ H Q I h
  refine PySem.W.methodCall_KW (pl := pl) (thn (he.run pins s σ H _ I h) ?_) ht
  rintro u s1 ⟨x, H1, I1, rx, rfl, q⟩
  obtain rfl : u = Value.ref C := rx
  refine getmethcm_ok I1 r c fun s2 I2 => ?_
  refine callwith_cm I2 (base_none I1 (Nat.le_refl _)) c.fi (thn (ha.run pos _ s2 σ H1 _ I2 q) fun us s3 ⟨vs, H2, I3, rv, q2⟩ => ⟨⟨pin_at I3, I3.kIn⟩, ?_⟩) hst hpl
  exact run_cmT F hr (fun er s' z => passAt tk σ _ H2 s3 er s' I3 z) I3 rv q2
end
end Qcm
set_option Elab.async false
set_option linter.all false
set_option maxRecDepth 100000
set_option maxHeartbeats 4000000
/-! dicts whose keys are ints, texts, None, truths and tuples of such, by what their keys are: a new key, len, the pairs in turn. -/
namespace Qmd
open PySem PySem.Spec PyProof.Rows L2
section
variable {prog : Program} {w : World} {A : Around} {E : Value → Shared → Prop} {s : Shared}
abbrev KeyAt (h : Heap) (k : NestedKey) (v : Value) : Prop := NestedIs h k v ∧ k.depth ≤ 8
theorem tell {k : NestedKey} {v : Value} {stored : List Value} {Q : Bool → Shared → Prop} (hk : KeyAt s.heap k v) (hs : ∀ u ∈ stored, ∃ k', KeyAt s.heap k' u) (h : Q false s) :
    wpAny (model prog w) A (tableMayTell v stored) Q E s := by
  unfold tableMayTell
  cases stored with
  | nil => exact wpAny_pure h
  | cons a r =>
    refine wpAny_bind (quiet_key k v 8 s hk.1 hk.2 A E _ ?_)
    refine wpAny_bind (wpAny_forIn_list _ (fun rest b s' => s' = s ∧ b = (none, ()) ∧ ∀ u ∈ rest, ∃ k', KeyAt s.heap k' u) _ ?_ ?_ _ _ ⟨rfl, rfl, hs⟩)
    · rintro x rest b s' ⟨rfl, rfl, hr⟩
      obtain ⟨k', hx⟩ := hr x List.mem_cons_self
      exact wpAny_bind (quiet_key k' x 8 s' hx.1 hx.2 A E _ (wpAny_pure ⟨rfl, rfl, fun v hv => hr v (List.mem_cons_of_mem _ hv)⟩))
    · rintro b s' ⟨rfl, rfl, _⟩
      exact wpAny_pure h
/-- the entries of such a dict that has not the key k -/
def Lacks (w : World) (h : Heap) (k : NestedKey) (es : Array DictEntry) : Prop := ∀ e ∈ es.toList, ∃ k', k' ≠ k ∧ KeyAt h k' e.key ∧ e.hash = k'.hash w
theorem asked {k k' : NestedKey} {u v : Value} {Q : Bool → Shared → Prop} (hu : A.units + 8 < cLine) (hx : KeyAt s.heap k' u) (hk : KeyAt s.heap k v) (ne : k' ≠ k) (h : Q false s) : wpAny (model prog w) A (eqBool u v) Q E s := by
  have e : NestedKey.beq k' k = false := by rw [← NestedKey.decide_eq]; exact decide_eq_false ne
  refine eqAt_key k' k A s _ _ hx.1 hk.1 (by have := hx.2; omega) _ _ _ _ ?_
  rw [e]
  exact h
theorem find_new {d : Addr} {o : Obj} {es : Array DictEntry} {ep : Nat} {k : NestedKey} {v : Value} {Q : Option Nat → Shared → Prop} (hu : A.units + 8 < cLine) (hk : KeyAt s.heap k v) (ho : s.heap.get? d = some o) (hd : o.data = .dict es ep)
    (hl : Lacks w s.heap k es) (h : Q none s) : wpAny (model prog w) A (dictFind d v (k.hash w)) Q E s := by
  unfold dictFind
  try with_reducible refine wpAny_holding ?_
  refine wpAny_bind (wpAny_dictEntries ho hd ?_)
  have at_ : ∀ (i : Nat) (e : DictEntry), es[i]? = some e → ∃ k', k' ≠ k ∧ KeyAt s.heap k' e.key ∧ e.hash = k'.hash w := fun i e he => hl e (Array.mem_toList_iff.mpr (Array.mem_of_getElem? he))
  generalize hp : placesWithHash es.size (fun i => es[i]?.map (·.hash)) (k.hash w) = places
  generalize hst : places.filterMap (fun i => es[i]?.map (·.key)) = stored
  have hs : ∀ u ∈ stored, ∃ k', KeyAt s.heap k' u := fun u hm => by
    rw [← hst] at hm
    obtain ⟨i, _, hi⟩ := List.mem_filterMap.mp hm
    cases he : es[i]? with
    | none => rw [he] at hi; cases hi
    | some e =>
      rw [he] at hi
      obtain ⟨k', _, h2, _⟩ := at_ i e he
      cases hi
      exact ⟨k', h2⟩
  have noKey : ∀ e ∈ es.toList, e.key = v → False := fun e he ev => by
    obtain ⟨k', n, h2, _⟩ := hl e he
    rw [ev] at h2
    exact n (NestedIs.inj _ _ _ h2.1 hk.1)
  have plain : wpAny (model prog w) A (dictWalkPlain d v (k.hash w) es places) Q E s := by
    unfold dictWalkPlain
    refine wpAny_bind (wpAny_forIn_list _ (fun rest b s' => s' = s ∧ b = (none, ())) _ ?_ ?_ _ _ ⟨rfl, rfl⟩)
    · rintro x rest b s' ⟨rfl, rfl⟩
      dsimp only
      cases he : es[x]? with
      | none => exact wpAny_pure ⟨rfl, rfl⟩
      | some e =>
        obtain ⟨k', n, h2, h3⟩ := at_ x e he
        dsimp only
        split
        · refine wpAny_bind (wpAny_dictEpoch ho hd (wpAny_bind (asked hu h2 hk n (wpAny_bind (wpAny_dictEpoch ho hd ?_)))))
          rw [if_neg (by simp)]
          exact wpAny_bind (wpAny_rule (wpAny_pure ⟨rfl, rfl⟩))
        · exact wpAny_pure ⟨rfl, rfl⟩
    · rintro b s' ⟨rfl, rfl⟩
      exact wpAny_pure h
  have byVal : ∀ x t, v = .str x t → wpAny (model prog w) A (foundByValue d v es x) Q E s := fun x t ev => by
    have e1 : es.findIdx? (·.key.isStr x) = none := Array.findIdx?_eq_none_iff.mpr fun e he => by
      cases hb : e.key.isStr x with
      | false => rfl
      | true =>
        exfalso
        obtain ⟨k', n, h2, _⟩ := hl e (Array.mem_toList_iff.mpr he)
        subst ev
        obtain ⟨z, hz⟩ : ∃ z, e.key = .str x z := by
          cases hk2 : e.key <;> rw [hk2] at hb <;> simp [Value.isStr] at hb
          exact ⟨_, by rw [hb]⟩
        rw [hz] at h2
        cases h2.1
        cases hk.1
        exact n rfl
    unfold foundByValue
    rw [e1]
    exact wpAny_pure h
  have anyF : ∀ b, v = .ref b → (es.any fun e => e.key == v && e.hash != k.hash w) = false := fun b _ => by
    rw [Bool.eq_false_iff]
    intro hc
    obtain ⟨e, he, hc⟩ := List.any_eq_true.mp (by rw [Array.any_toList]; exact hc)
    exact noKey e he (by simpa using (Bool.and_eq_true_iff.mp hc).1)
  have k1 := hk.1
  cases k1 with
  | text x t =>
    dsimp only
    rw [hst]
    by_cases c1 : (es.all fun e => isExactStrKey e.key) = true
    · rw [if_pos c1]
      exact byVal x t rfl
    · rw [if_neg c1]
      by_cases c2 : ((Value.str x t :: stored).all carriedByValue) = true
      · rw [if_pos c2]
        exact plain
      · rw [if_neg c2]
        (by_cases hone : (stored == [(Value.str x t)]) = true <;> (first | rw [if_pos hone] | rw [if_neg hone]) <;> (first | refine wpAny_bind (wpAny_pure ?_) | refine wpAny_bind (tell hk hs ?_)) <;> (
            rw [if_neg (by simp)]
            refine wpAny_bind (wpAny_forIn_list _ (fun rest b s' => s' = s ∧ b = (none, none)) _ ?_ ?_ _ _ ⟨rfl, rfl⟩)
            · rintro x rest b s' ⟨rfl, rfl⟩
              dsimp only
              cases he : es[x]? with
              | none => exact wpAny_pure ⟨rfl, rfl⟩
              | some e =>
                obtain ⟨k', n, h2, h3⟩ := at_ x e he
                dsimp only
                split
                · refine wpAny_bind (wpAny_dictEpoch ho hd (wpAny_bind (asked hu h2 hk n (wpAny_bind (wpAny_dictEpoch ho hd ?_)))))
                  rw [if_neg (by simp)]
                  refine wpAny_bind (wpAny_rule ?_)
                  simp only [Bool.false_eq_true, Bool.false_and, if_false]
                  exact wpAny_pure ⟨rfl, rfl⟩
                · exact wpAny_pure ⟨rfl, rfl⟩
            · rintro b s' ⟨rfl, rfl⟩
              exact wpAny_pure h))
  | tup g1 g2 g3 g4 =>
    rename_i a' o' vs' n' ks'
    dsimp only
    rw [hst, if_neg (by rw [List.all_cons]; exact Bool.false_ne_true), if_neg (by rw [anyF _ rfl]; exact Bool.false_ne_true)]
    (by_cases hone : (stored == [(Value.ref a')]) = true <;> (first | rw [if_pos hone] | rw [if_neg hone]) <;> (first | refine wpAny_bind (wpAny_pure ?_) | refine wpAny_bind (tell hk hs ?_)) <;> (
        rw [if_neg (by simp)]
        refine wpAny_bind (wpAny_forIn_list _ (fun rest b s' => s' = s ∧ b = (none, none)) _ ?_ ?_ _ _ ⟨rfl, rfl⟩)
        · rintro x rest b s' ⟨rfl, rfl⟩
          dsimp only
          cases he : es[x]? with
          | none => exact wpAny_pure ⟨rfl, rfl⟩
          | some e =>
            obtain ⟨k', n, h2, h3⟩ := at_ x e he
            dsimp only
            split
            · refine wpAny_bind (wpAny_dictEpoch ho hd (wpAny_bind (asked hu h2 hk n (wpAny_bind (wpAny_dictEpoch ho hd ?_)))))
              rw [if_neg (by simp)]
              refine wpAny_bind (wpAny_rule ?_)
              simp only [Bool.false_eq_true, Bool.false_and, if_false]
              exact wpAny_pure ⟨rfl, rfl⟩
            · exact wpAny_pure ⟨rfl, rfl⟩
        · rintro b s' ⟨rfl, rfl⟩
          exact wpAny_pure h))
  | bool e =>
    rename_i b i
    dsimp only
    rw [hst]
    by_cases c2 : ((Value.bool b :: stored).all carriedByValue) = true
    · rw [if_pos c2]
      exact plain
    · rw [if_neg c2]
      (by_cases hone : (stored == [(Value.bool b)]) = true <;> (first | rw [if_pos hone] | rw [if_neg hone]) <;> (first | refine wpAny_bind (wpAny_pure ?_) | refine wpAny_bind (tell hk hs ?_)) <;> (
          rw [if_neg (by simp)]
          refine wpAny_bind (wpAny_forIn_list _ (fun rest b s' => s' = s ∧ b = (none, none)) _ ?_ ?_ _ _ ⟨rfl, rfl⟩)
          · rintro x rest b s' ⟨rfl, rfl⟩
            dsimp only
            cases he : es[x]? with
            | none => exact wpAny_pure ⟨rfl, rfl⟩
            | some e =>
              obtain ⟨k', n, h2, h3⟩ := at_ x e he
              dsimp only
              split
              · refine wpAny_bind (wpAny_dictEpoch ho hd (wpAny_bind (asked hu h2 hk n (wpAny_bind (wpAny_dictEpoch ho hd ?_)))))
                rw [if_neg (by simp)]
                refine wpAny_bind (wpAny_rule ?_)
                simp only [Bool.false_eq_true, Bool.false_and, if_false]
                exact wpAny_pure ⟨rfl, rfl⟩
              · exact wpAny_pure ⟨rfl, rfl⟩
          · rintro b s' ⟨rfl, rfl⟩
            exact wpAny_pure h))
  | int i t =>
    dsimp only
    rw [hst]
    by_cases c2 : ((Value.int i t :: stored).all carriedByValue) = true
    · rw [if_pos c2]
      exact plain
    · rw [if_neg c2]
      (by_cases hone : (stored == [(Value.int i t)]) = true <;> (first | rw [if_pos hone] | rw [if_neg hone]) <;> (first | refine wpAny_bind (wpAny_pure ?_) | refine wpAny_bind (tell hk hs ?_)) <;> (
          rw [if_neg (by simp)]
          refine wpAny_bind (wpAny_forIn_list _ (fun rest b s' => s' = s ∧ b = (none, none)) _ ?_ ?_ _ _ ⟨rfl, rfl⟩)
          · rintro x rest b s' ⟨rfl, rfl⟩
            dsimp only
            cases he : es[x]? with
            | none => exact wpAny_pure ⟨rfl, rfl⟩
            | some e =>
              obtain ⟨k', n, h2, h3⟩ := at_ x e he
              dsimp only
              split
              · refine wpAny_bind (wpAny_dictEpoch ho hd (wpAny_bind (asked hu h2 hk n (wpAny_bind (wpAny_dictEpoch ho hd ?_)))))
                rw [if_neg (by simp)]
                refine wpAny_bind (wpAny_rule ?_)
                simp only [Bool.false_eq_true, Bool.false_and, if_false]
                exact wpAny_pure ⟨rfl, rfl⟩
              · exact wpAny_pure ⟨rfl, rfl⟩
          · rintro b s' ⟨rfl, rfl⟩
            exact wpAny_pure h))
  | none =>
    dsimp only
    rw [hst]
    by_cases c2 : ((Value.none :: stored).all carriedByValue) = true
    · rw [if_pos c2]
      exact plain
    · rw [if_neg c2]
      (by_cases hone : (stored == [(Value.none)]) = true <;> (first | rw [if_pos hone] | rw [if_neg hone]) <;> (first | refine wpAny_bind (wpAny_pure ?_) | refine wpAny_bind (tell hk hs ?_)) <;> (
          rw [if_neg (by simp)]
          refine wpAny_bind (wpAny_forIn_list _ (fun rest b s' => s' = s ∧ b = (none, none)) _ ?_ ?_ _ _ ⟨rfl, rfl⟩)
          · rintro x rest b s' ⟨rfl, rfl⟩
            dsimp only
            cases he : es[x]? with
            | none => exact wpAny_pure ⟨rfl, rfl⟩
            | some e =>
              obtain ⟨k', n, h2, h3⟩ := at_ x e he
              dsimp only
              split
              · refine wpAny_bind (wpAny_dictEpoch ho hd (wpAny_bind (asked hu h2 hk n (wpAny_bind (wpAny_dictEpoch ho hd ?_)))))
                rw [if_neg (by simp)]
                refine wpAny_bind (wpAny_rule ?_)
                simp only [Bool.false_eq_true, Bool.false_and, if_false]
                exact wpAny_pure ⟨rfl, rfl⟩
              · exact wpAny_pure ⟨rfl, rfl⟩
          · rintro b s' ⟨rfl, rfl⟩
            exact wpAny_pure h))
theorem len_raw {d : Addr} {arr : Array DictEntry} {ep : Nat} {Q : Value → Shared → Prop} (hd : (d == sysModules) = false) (hm : s.heap.DictRaw d arr ep) (hfit : (arr.size : Int) < 2 ^ 63)
    (h : Q (.int arr.size (s.toks + 1)) { s with toks := s.toks + 1 + 1 }) : wpAny (model prog w) A (call (.builtin "len") [.ref d]) Q E s := by
  refine Calls.call_function_entry kind_len plain_len entry_len (args_len1 _) ?_
  unfold Builtin.«len»
  refine wpAny_bind (m := oneArg "len" _) (wpAny_pure ?_)
  refine wpAny_bind (m := callSpecial? (.ref d) (Str.ofString "__len__")) (wpAny_callSpecial?_slot (name := Str.ofString "__len__") hm.typeIs PySem.F.slot_dict_len (call_len_raw hd hm ?_))
  refine wpAny_bind (wpAny_holding (wpAny_pure ?_))
  refine wpAny_bind (wpAny_letGo ?_)
  show wpAny _ _ (if ((arr.size : Nat) : Int) < 0 then _ else _) _ _ _
  rw [if_neg (by omega)]
  show wpAny _ _ (if ((arr.size : Nat) : Int) ≥ 2 ^ 63 then _ else _) _ _ _
  rw [if_neg (by omega)]
  exact wpAny_bind (wpAny_mkInt (wpAny_pure ⟨_, rfl, h⟩))
theorem set_new {d : Addr} {es : Array DictEntry} {ep : Nat} {k : NestedKey} {u r : Value} {Q : Unit → Shared → Prop} (hu : A.units + 8 < cLine) (hm : s.heap.DictRaw d es ep) (hk : KeyAt s.heap k u) (hl : Lacks w s.heap k es) (hz : es.size ≤ sizeLine)
    (hQ : ∀ h', h'.DictRaw d (es.push ⟨k.hash w, u, r⟩) (ep + 1) → Heap.SameBut d s.heap h' → Q () { s with heap := h', toks := s.toks + k.draws }) : wpAny (model prog w) A (dictSet d u r) Q E s := by
  obtain ⟨o, ho, hc, hd⟩ := hm
  unfold dictSet
  try with_reducible refine wpAny_holding ?_
  refine wpAny_bind (pyHash_key k u A s _ hk.1 (by have := hk.2; omega) ?_)
  unfold dictSetHashed
  try with_reducible refine wpAny_holding ?_
  refine wpAny_bind (find_new (s := { s with toks := s.toks + k.draws }) hu hk ho hd hl ?_)
  refine wpAny_bind (wpAny_rule (wpAny_updateDictKeys (hz := hz) (s := { s with toks := s.toks + k.draws }) ho hd (hQ _ ⟨_, Heap.get?_update_self _ ho (Obj.isFreed_of_dict (Obj.data_mapDictKeys hd _)), hc.mapDictKeys _, Obj.data_mapDictKeys hd _⟩ (Heap.SameBut.update ..))))
theorem setItem_new {d : Addr} {es : Array DictEntry} {ep : Nat} {k : NestedKey} {u r : Value} {Q : Unit → Shared → Prop} (hu : A.units + 9 < cLine) (hm : s.heap.DictRaw d es ep) (hk : KeyAt s.heap k u) (hl : Lacks w s.heap k es) (hz : es.size ≤ sizeLine)
    (hQ : ∀ h', h'.DictRaw d (es.push ⟨k.hash w, u, r⟩) (ep + 1) → Heap.SameBut d s.heap h' → Q () { s with heap := h', toks := s.toks + k.draws }) : wpAny (model prog w) A (setItem (.ref d) u r) Q E s := by
  unfold setItem
  try with_reducible refine wpAny_holding ?_
  refine wpAny_bind (wpAny_sequenceKey hm.typeIs (by decide) ?_)
  refine wpAny_bind (wpAny_callSpecial?_slot (name := Str.ofString "__setitem__") hm.typeIs PySem.F.slot_dict_setitem
    (wpAny_call_entry PySem.F.slot_dict_setitem hm.typeIs PySem.F.entry_dict_setitem ?_ (PySem.args_dict_setitem _ _ _)))
  show wpAny _ _ (Builtin.Dict.notOrdered "__setitem__" ⟨[.ref d, u, r], []⟩ >>= _) _ _ s
  refine wpAny_bind (wpAny_notOrdered_dict hm.typeIs ?_)
  show wpAny _ _ (dictSet d u r >>= _) _ _ s
  exact wpAny_bind (set_new (hu := by show A.units + 1 + 8 < cLine; omega) hm hk hl hz fun h' hm' hs' => wpAny_pure ⟨.none, rfl, wpAny_pure (hQ h' hm' hs')⟩)
end
/-! ### in the hand layer -/
abbrev En := NestedKey × V × V
def EnRel (w : World) (p : En) (e : DictEntry) : Prop := e.hash = p.1.hash w ∧ RelV p.2.1 e.key ∧ RelV p.2.2 e.val
def dMP (w : World) (a : Addr) (es : List En) (h : Heap) : Prop := (a == sysModules) = false ∧ es.length ≤ sizeLine ∧ ∃ arr ep, h.DictRaw a arr ep ∧ Paired (EnRel w) es arr.toList
def dM (w : World) (a : Addr) (es : List En) : HO := .ext (dMP w a es)
theorem dM_ok {P : Program} {w : World} {H : Hp} {h : Heap} {a : Addr} {es : List En} (x : dMP w a es h) : ObjOk P w H h a (dM w a es) := by
  refine ⟨x, ?_, fun h1 h2 y k => ?_⟩
  · obtain ⟨_, _, arr, ep, ⟨o, ho, _⟩, _⟩ := x
    exact ⟨o, ho⟩
  · obtain ⟨y1, y2, arr, ep, y3, y4⟩ := y
    exact ⟨y1, y2, arr, ep, y3.at k, y4⟩
inductive KeyV (H : Hp) : NestedKey → V → Prop
  | non : KeyV H .none .non
  | bl (b : Bool) : KeyV H (.num (if b = true then 1 else 0)) (.bl b)
  | int (i : Int) : KeyV H (.num i) (.int i)
  | str (x : Str) : KeyV H (.text x) (.str x)
  | tup {a : Addr} {xs : List Str} (e : H a = some (.tup (xs.map V.str))) : KeyV H (.tup (xs.map .text)) (.ref a)
theorem depth_texts : ∀ xs : List Str, NestedKey.depthAll (xs.map .text) = 0
  | [] => rfl
  | x :: xs => by
    rw [List.map_cons, NestedKey.depthAll, depth_texts xs]
    rfl
theorem texts_at {h : Heap} : ∀ {xs : List Str} {us : List Value}, Vals (xs.map V.str) us → NestedAll h (xs.map .text) us
  | [], _, .nil => .nil
  | x :: xs, _, .cons r t => by
    obtain ⟨z, rfl⟩ := (show ∃ t, _ = Value.str x t from r)
    exact .cons (.text x z) (texts_at t)
section
variable {X : Cx} {pins : List (Addr × Obj)} {σ : L2.St} {H : Hp} {s : Shared}
theorem KeyV.at {k : NestedKey} {x : V} {u : Value} (I : Inv X pins σ H s) (hk : KeyV H k x) (r : RelV x u) : KeyAt s.heap k u := by
  cases hk with
  | non =>
    cases (show u = Value.none from r)
    exact ⟨.none, by decide⟩
  | bl b =>
    cases (show u = Value.bool b from r)
    exact ⟨.bool rfl, by show 0 ≤ 8; decide⟩
  | int i =>
    obtain ⟨z, rfl⟩ := (show ∃ t, u = Value.int i t from r)
    exact ⟨.int i z, by show 0 ≤ 8; decide⟩
  | str x =>
    obtain ⟨z, rfl⟩ := (show ∃ t, u = Value.str x t from r)
    exact ⟨.text x z, by show 0 ≤ 8; decide⟩
  | @tup a xs e =>
    cases (show u = Value.ref a from r)
    obtain ⟨_, its, rv, o, h1, h2, n, h3⟩ := (show ObjOk X.prog X.w H s.heap a (.tup (xs.map V.str)) from I.hok a _ e)
    refine ⟨.tup h1 h2 h3 (texts_at (by simpa using rv)), ?_⟩
    show NestedKey.depthAll (xs.map .text) + 1 ≤ 8
    rw [depth_texts]
    decide
theorem lacks_of {k : NestedKey} {es : List En} {arr : Array DictEntry} (I : Inv X pins σ H s) (pr : Paired (EnRel X.w) es arr.toList) (hk : ∀ e ∈ es, KeyV H e.1 e.2.1 ∧ e.1 ≠ k) : Lacks X.w s.heap k arr := by
  unfold Lacks
  generalize arr.toList = l at pr
  induction pr with
  | nil => exact fun e he => nomatch he
  | @cons p e ps l r t ih =>
    intro z hz
    rcases List.mem_cons.mp hz with rfl | hz
    · obtain ⟨h1, h2⟩ := hk p List.mem_cons_self
      exact ⟨p.1, h2, h1.at I r.2.1, r.1⟩
    · exact ih (fun e he => hk e (List.mem_cons_of_mem _ he)) z hz
theorem dM_of {a : Addr} {es : List En} (I : Inv X pins σ H s) (e : H a = some (dM X.w a es)) : dMP X.w a es s.heap := (show ObjOk X.prog X.w H s.heap a (dM X.w a es) from I.hok a _ e).1
end
/-- {} -/
def tMNew (w : World) : TE := fun _ H Q => ∀ p, H p = none → Q (.ref p) (upd H p (dM w p []))
/-- d[y] = v, y new -/
def sMPut (w : World) (td ty tv : TE) : TS := fun D σ H => tv σ H fun v H1 => td σ H1 fun x H2 => ty σ H2 fun y H3 => ∃ a es k, x = .ref a ∧ H3 a = some (dM w a es) ∧ KeyV H3 k y ∧ (∀ e ∈ es, KeyV H3 e.1 e.2.1 ∧ e.1 ≠ k) ∧ es.length < sizeLine ∧
  D.nx σ (upd H3 a (dM w a (es ++ [(k, y, v)])))
theorem paired_snoc {α β : Type} {F : α → β → Prop} {a : α} {b : β} (r : F a b) : ∀ {l : List α} {m : List β}, Paired F l m → Paired F (l ++ [a]) (m ++ [b])
  | _, _, .nil => .cons r .nil
  | _, _, .cons q t => .cons q (paired_snoc r t)
section
variable {X : Cx} {o i value : Expr} {td ty tv : TE} {pos pos' : Pos}
theorem pe_mnew : PE X (.Dict [] [] pos) (tMNew X.w) := ⟨fun pins s σ H Q I h =>
  wpAny_Dict_empty ⟨.ref s.heap.objs.size, _, I.laid (a := s.heap.objs.size) (o := dM X.w s.heap.objs.size []) (t' := s.toks) (fun _ _ q => Heap.get?_push_of_some _ q) (Nat.le_refl _)
    (dM_ok ⟨beq_eq_false_iff_ne.mpr (Ne.symm (Nat.ne_of_lt I.big)), Nat.zero_le _, #[], 0, ⟨_, Heap.get?_push_size _ rfl, ⟨rfl, rfl, rfl⟩, rfl⟩, .nil⟩), rfl, h _ (I.hok.fresh (Nat.le_refl _))⟩⟩
theorem ps_mput (hu : X.A.units + 9 < cLine) (ho : PE X o td) (hi : PE X i ty) (hv : PE X value tv) (hs : swapsWith value (some (.Subscript o i pos')) pos.line X.env = pure false) :
    PS X (.Assign [.Subscript o i pos'] value pos) (sMPut X.w td ty tv) := by
  refine ⟨fun pins s σ H D I h => ?_⟩
  refine wpAny_Assign_Subscript (thn (hv.run pins s σ H _ I h) fun r s1 ⟨v, H1, I1, rv, q1⟩ => thn (ho.run pins s1 σ H1 _ I1 q1) fun u s2 ⟨x, H2, I2, rx, q2⟩ => thn (hi.run pins s2 σ H2 _ I2 q2) fun iv s3 ⟨y, H3, I3, ry, a, es, k, ex, ea, kv, ke, kl, q3⟩ => ?_) hs
  subst ex
  obtain rfl : u = Value.ref a := rx
  obtain ⟨z1, z2, arr, ep, z3, z4⟩ := dM_of I3 ea
  have sz : arr.size = es.length := by rw [← Array.length_toList, z4.length]
  refine setItem_new hu z3 (kv.at I3 ry) (lacks_of I3 z4 ke) (by omega) fun h' z5 sb => ⟨σ, _, ?_, q3⟩
  refine d_write I3 (by rw [ea]; exact True.intro) sb (let ⟨q, hq, _⟩ := z5; ⟨q, hq⟩) (dM_ok ⟨z1, by rw [List.length_append]; exact kl, _, _, z5, ?_⟩)
  rw [Array.toList_push]
  exact paired_snoc ⟨rfl, ry, rv⟩ z4
theorem pe_mnewW {w : World} (hw : X.w = w) : PE X (.Dict [] [] pos) (tMNew w) := by
  subst hw
  exact pe_mnew
theorem ps_mputW {w : World} (hw : X.w = w) (hu : X.A.units + 9 < cLine) (ho : PE X o td) (hi : PE X i ty) (hv : PE X value tv) (hs : swapsWith value (some (.Subscript o i pos')) pos.line X.env = pure false) :
    PS X (.Assign [.Subscript o i pos'] value pos) (sMPut w td ty tv) := by
  subst hw
  exact ps_mput hu ho hi hv hs
/-- len of such a dict -/
theorem call_lenM : CallR X (.builtin "len") (fun xs H Q => ∃ a es, xs = [V.ref a] ∧ H a = some (dM X.w a es) ∧ Q (.int es.length) H) := by
  intro pins s σ H xs us Q I r h
  obtain ⟨a, es, rfl, ha, q⟩ := h
  obtain ⟨u, rfl, ru⟩ := vals1 r
  cases ru
  obtain ⟨z1, z2, arr, ep, z3, z4⟩ := dM_of I ha
  have sz : arr.size = es.length := by rw [← Array.length_toList, z4.length]
  refine len_raw z1 z3 (by rw [sz]; rw [sizeLine_eq] at z2; omega) ?_
  rw [sz]
  exact ⟨.int es.length, H, I.tok _, ⟨_, rfl⟩, q⟩
/-- isinstance(d, dict) -/
theorem call_isiM : CallR X (.builtin "isinstance") (fun xs H Q => ∃ a es, xs = [V.ref a, .ty "dict"] ∧ H a = some (dM X.w a es) ∧ Q (.bl true) H) := by
  intro pins s σ H xs us Q I r h
  obtain ⟨a, es, rfl, ha, q⟩ := h
  obtain ⟨u1, u2, rfl, r1, r2⟩ := vals2 r
  cases (show u1 = Value.ref a from r1)
  cases (show u2 = Value.type "dict" from r2)
  obtain ⟨z1, z2, arr, ep, ⟨o, h1, h2, _⟩, z4⟩ := dM_of I ha
  exact PySem.W.kia_one PySem.W.kitx_dict I.kIn ⟨o, h1, h2.1⟩ (kit_ty (r := true) (by decide +kernel)) (fun z => nomatch z) fun tk => ⟨.bl true, H, I.tok tk, rfl, q⟩
end
/-! ### the pairs in turn, the dict locked -/
def Itm (w : World) (d : Addr) (o : Obj) (es : List En) : It :=
  ⟨fun i H => H d = some (.frz o (dM w d es)) ∧ i < es.length, fun i H x H' => ∃ T e, es[i]? = some e ∧ x = .ref T ∧ H T = none ∧ H' = upd H T (.tup [e.2.1, e.2.2]), fun i H => H d = some (.frz o (dM w d es)) ∧ es.length ≤ i⟩
section
variable {X : Cx} {pins : List (Addr × Obj)} {σ : L2.St} {H : Hp} {s : Shared} {d : Addr} {o : Obj}
theorem frzM {es : List En} (I : Inv X pins σ H s) (h : H d = some (.frz o (dM X.w d es))) :
    (d == sysModules) = false ∧ s.heap.get? d = some o ∧ ∃ arr ep, o.data = .dict arr ep ∧ arr.size = es.length ∧ s.heap.DictRaw d arr ep ∧ Paired (EnRel X.w) es arr.toList := by
  obtain ⟨hd, z, _⟩ := I.hok d _ h
  obtain ⟨z1, z2, arr, ep, z3, z4⟩ := z
  obtain ⟨o', ho, hx, hdt⟩ := id z3
  rw [hd] at ho
  cases ho
  exact ⟨z1, hd, arr, ep, hdt, by rw [← Array.length_toList, z4.length], z3, z4⟩
theorem paired_at {α β : Type} {F : α → β → Prop} : ∀ {l : List α} {m : List β} {i : Nat} {a : α}, Paired F l m → l[i]? = some a → ∃ b, m[i]? = some b ∧ F a b
  | _, _, 0, _, .cons r _, e => by
    cases e
    exact ⟨_, rfl, r⟩
  | _, _, i + 1, _, .cons _ t, e => paired_at (i := i) t e
end
theorem turn_itemsM {P : Program} {w : World} {K : PySem.W.Frag} {d : Addr} {o : Obj} {arr : Array DictEntry} {ep : Nat} {es : List En} {elts : List Expr} {kk : Nat} {tpos : Pos} (it : Addr) (hod : o.data = .dict arr ep) :
    Turn P w K (.Tuple elts kk tpos) (Itm w d o es) [it] it (fun i h => ∃ ok ov, IsItemIter h it d i es.length ep ok ov) where
  mem := by simp
  obj := fun i h st b hb => by
    have e : b = it := by simpa using hb
    subst e
    obtain ⟨ok, ov, e⟩ := st
    exact ⟨_, e, fun v z => nomatch z⟩
  keep := fun i h h' st k => let ⟨ok, ov, e⟩ := st; ⟨ok, ov, k it (by simp) _ e⟩
  item := by
    intro X hP hw hK hc i pins s σ H E I hf st hg
    subst hP hw hK
    obtain ⟨hd, hi⟩ := hg
    obtain ⟨hs, hgd, arr', ep', hdt, hsz, hm, pr⟩ := frzM I hd
    obtain ⟨rfl, rfl⟩ := dict_ep hod hdt
    obtain ⟨p, hp⟩ : ∃ p, es[i]? = some p := ⟨es[i], List.getElem?_eq_getElem hi⟩
    obtain ⟨en, hen, r1, r2, r3⟩ := paired_at pr hp
    obtain ⟨ok, ov, he⟩ := st
    rw [← hsz] at he
    have hlt : it < s.heap.objs.size := Heap.lt_size he
    have hia : i < arr'.size := by omega
    have ea : arr'[i] = en := by
      rw [Array.getElem?_toList, Array.getElem?_eq_getElem hia] at hen
      exact Option.some.inj hen
    refine wpAny_pyNext_items_item_raw he hm hia fun h' ho hT hz hk => ?_
    refine ⟨_, rfl, wpAny_letOwnedTupleGo_items (s := { s with heap := h' }) ho fun h'' he' sb => ?_⟩
    rw [ea] at hT
    have hT2 : h''.get? s.heap.objs.size = some { cls := .type "tuple", data := .seq #[en.key, en.val] } := (sb.2 _ (Nat.ne_of_gt hlt)).trans hT
    have new : ObjOk X.prog X.w (upd H s.heap.objs.size (.tup [p.2.1, p.2.2])) h'' s.heap.objs.size (.tup [p.2.1, p.2.2]) :=
      ⟨by show 2 ≤ sizeLine; decide, [en.key, en.val], .cons r2 (.cons r3 .nil), ⟨_, hT2, rfl, _, rfl⟩⟩
    have I1 : Inv X pins σ (upd H s.heap.objs.size (.tup [p.2.1, p.2.2])) { s with heap := h'' } :=
      I.turnedNew (t' := s.toks) (ch := [it]) (fun b ob hb e => (sb.2 b (by simpa using hb)).trans (hk b ob (by simpa using hb) e)) hf (Nat.le_refl _) new
    refine ⟨.ref s.heap.objs.size, _, I1, rfl, ⟨_, p, hp, rfl, I.hok.fresh (Nat.le_refl _), rfl⟩, ⟨arr'[i].key, arr'[i].val, ?_⟩, fun b hb => ?_⟩
    · rw [← hsz]; exact he'
    · have e : b = it := by simpa using hb
      rw [e, upd_ne (Nat.ne_of_lt hlt)]
      exact (hf it (by simp)).1
  done := by
    intro X hP hw hK hc i pins s σ H E I hf st hg
    subst hP hw hK
    obtain ⟨hd, hi⟩ := hg
    obtain ⟨f0, f1, f2, f3, f4, f5⟩ := hf it (by simp)
    obtain ⟨hs, hgd, arr', ep', hdt, hsz, hm, pr⟩ := frzM I hd
    obtain ⟨rfl, rfl⟩ := dict_ep hod hdt
    obtain ⟨ok, ov, he⟩ := st
    rw [← hsz] at he
    exact wpAny_pyNext_items_end_raw (I.ok.hd hc) he hm (by omega) fun h' eb => ⟨rfl, I.turned (t' := s.toks) (fun b ob hb e => eb b ob hb e) f0 f1 f3 f4 f5⟩
  self := fun A i s Q E st h => let ⟨_, _, e⟩ := st; PySem.W.kcp_self e h
def iItemsM (w : World) (td : TE) : TI := fun σ H R => td σ H fun x H1 => ∃ d o es, x = .ref d ∧ H1 d = some (.frz o (dM w d es)) ∧ R (Itm w d o es) H1
section
variable {X : Cx} {e : Expr} {td : TE} {apos cpos : Pos}
theorem pi_itemsM {elts : List Expr} {kk : Nat} {tpos : Pos} (he : PE X e td) (hbase : attributeBase e "items" X.env (eval e X.env) = eval e X.env := by rfl) (hline : (apos.endLine == cpos.line) = true := by rfl) :
    PI X (.Tuple elts kk tpos) (.Call (.Attribute e "items" apos) [] [] cpos) (iItemsM X.w td) := by
  refine ⟨fun pins s σ H R I h => ?_⟩
  refine wpAny_Call_method (T := "dict") (id := "dict.items") hbase rfl hline PySem.F.plainAttrs_dict PySem.F.slot_dict_items PySem.F.type_dict_items (thn (he.run pins s σ H _ I h) fun u s1 ⟨x, H1, I1, rx, d, o, es, ex, hd, q⟩ => ?_)
  subst ex
  obtain rfl : u = Value.ref d := rx
  obtain ⟨hs, hgd, arr, ep, hdt, hsz, hm, pr⟩ := frzM I1 hd
  refine ⟨hm.typeIs, fun a e => by cases e; exact let ⟨o, ho, hc, _⟩ := hm; ⟨o, ho, hc.2.1⟩, ?_⟩
  have I2 : Inv X pins σ H1 { s1 with heap := s1.heap.push { cls := .type "dict_items", data := .fields #[.ref d] } } := I1.kept (t' := s1.toks) fun b ob q => Heap.get?_push_of_some _ q
  have fin : wpAny (model X.prog X.w) X.A (pyIter (.ref s1.heap.objs.size)) (PIE X pins σ (.Tuple elts kk tpos) R) X.xe { s1 with heap := s1.heap.push { cls := .type "dict_items", data := .fields #[.ref d] } } := by
    refine wpAny_pyIter_items_raw (d := d) ⟨_, Heap.get?_push_size _ rfl, rfl, rfl⟩ (hm.push _) (pi_one (tk := s1.toks) I2 _ (turn_itemsM _ hdt) ⟨.none, .none, ?_⟩ q)
    rw [← hsz]
    exact Heap.get?_push_size _ rfl
  show wpAny _ _ (callWith cpos (.builtin "dict.items") [.ref d] [] []) _ X.xe s1
  exact method_meetsIn PySem.F.slot_dict_items PySem.F.entry_dict_items rfl (PySem.evalArgs_none ⟨rfl, hm.typeIs, PySem.F.args_dict_items_1 _, _, meets_dict_items_raw d hs, ⟨⟨arr, ep, hm⟩, fin⟩⟩)
end
theorem walk_itemsM {w : World} {d : Addr} {o : Obj} {es : List En} : Walk (Itm w d o es) es.length (fun H => H d = some (.frz o (dM w d es))) (YPair (fun i => es[i]?.map fun e => e.2.1) (fun i => es[i]?.map fun e => e.2.2)) := by
  refine ⟨fun _ _ hi q => ⟨q, hi⟩, fun _ q => ⟨q, Nat.le_refl _⟩, fun i H x H' _ _ y => ?_⟩
  obtain ⟨T, e, h1, h2, h3, h4⟩ := y
  exact ⟨T, e.2.1, e.2.2, h2, h3, h4, by simp [h1], by simp [h1]⟩
end Qmd
set_option Elab.async false
set_option linter.all false
set_option maxRecDepth 100000
set_option maxHeartbeats 8000000
namespace K04.Sw
open PySem PySem.Spec PyProof.Rows L2 TL Qh Qi Ql ClX Qst Qkw Qmd
abbrev sAscP : Stmt := top 10
abbrev sInit : Stmt := inClass (top 12) 1
abbrev sOf : Stmt := inClass (top 12) 2
abbrev sResult : Stmt := inClass (top 12) 3
def kvOf (p : Str × Str) : Key × V := (.inr p.1, .str p.2)
def pairK (p : Str × Str) : List Key := [.inr p.1, .inr p.2]
inductive PairsAt (G : Hp) : List Addr → List (Str × Str) → Prop
  | nil : PairsAt G [] []
  | cons {a : Addr} {p : Str × Str} {as : List Addr} {ps : List (Str × Str)} : G a = some (.tup [.str p.1, .str p.2]) → PairsAt G as ps → PairsAt G (a :: as) (p :: ps)
theorem PairsAt.same {G G' : Hp} (s : ∀ a l, G a = some (.tup l) → G' a = some (.tup l)) : ∀ {as : List Addr} {ps : List (Str × Str)}, PairsAt G as ps → PairsAt G' as ps
  | _, _, .nil => .nil
  | _, _, .cons h t => .cons (s _ _ h) (PairsAt.same s t)
theorem PairsAt.len {G : Hp} : ∀ {as : List Addr} {ps : List (Str × Str)}, PairsAt G as ps → as.length = ps.length
  | _, _, .nil => rfl
  | _, _, .cons _ t => by rw [List.length_cons, List.length_cons, PairsAt.len t]
theorem PairsAt.at {G : Hp} : ∀ {as : List Addr} {ps : List (Str × Str)} {i : Nat} {a : Addr}, PairsAt G as ps → as[i]? = some a → ∃ p, ps[i]? = some p ∧ G a = some (.tup [.str p.1, .str p.2])
  | _, _, 0, a, .cons h t, e => by
    cases e
    exact ⟨_, rfl, h⟩
  | _, _, i + 1, a, .cons h t, e => PairsAt.at (i := i) t e
/-- a tuple of pairs of texts -/
def TupsAt (G : Hp) (D : Addr) (ps : List (Str × Str)) : Prop := ∃ as, G D = some (.tup (as.map V.ref)) ∧ PairsAt G as ps
theorem TupsAt.same {G G' : Hp} {D : Addr} {ps : List (Str × Str)} (h : TupsAt G D ps) (s : ∀ a l, G a = some (.tup l) → G' a = some (.tup l)) : TupsAt G' D ps := by
  obtain ⟨as, h1, h2⟩ := h
  exact ⟨as, s _ _ h1, h2.same s⟩
/-- the pairs of a dict in order -/
def SortP (kvs : List (Key × V)) (ps : List (Str × Str)) : Prop := (ps.map kvOf).Perm kvs ∧ ps.Pairwise (fun x y => ltK (pairK y) (pairK x) = false)
structure SwapC (K : PySem.W.Frag) (mg : Str → Option Value) (C : Addr) : Prop where
  g : mg "Swap" = some (.ref C)
  cl : Cls K C
  n1 : NoAttr K C "pairs"
  most : ∃ mc u, CRead K C mc ∧ CVal K C mc "MOST" (.int 10) u
def inSize (n : Nat) : Bool := decide ((1 : Int) ≤ (n : Int)) && decide ((n : Int) ≤ 10)
def kvWord (e : Key × V) : Bool := wordV (kV e.1) && wordV e.2
theorem kvWord_of {e : Key × V} (h : kvWord e = true) : ∃ p : Str × Str, e = kvOf p ∧ wordS p.1 = true ∧ wordS p.2 = true := by
  obtain ⟨k, v⟩ := e
  obtain ⟨h1, h2⟩ := Bool.and_eq_true_iff.mp h
  obtain ⟨y, rfl⟩ := txt_of h2
  cases k with
  | inl i => exact absurd h1 Bool.false_ne_true
  | inr x => exact ⟨(x, y), rfl, h1, h2⟩
theorem kvs_of : ∀ {kvs : List (Key × V)}, (∀ e ∈ kvs, kvWord e = true) → ∃ ps : List (Str × Str), kvs = ps.map kvOf ∧ ∀ p ∈ ps, wordS p.1 = true ∧ wordS p.2 = true
  | [], _ => ⟨[], rfl, fun _ h => nomatch h⟩
  | e :: kvs, h => by
    obtain ⟨p, rfl, h1⟩ := kvWord_of (h e List.mem_cons_self)
    obtain ⟨ps, rfl, h2⟩ := kvs_of fun z hz => h z (List.mem_cons_of_mem _ hz)
    refine ⟨p :: ps, rfl, fun z hz => ?_⟩
    rcases List.mem_cons.mp hz with rfl | hz
    · exact h1
    · exact h2 z hz
/-- the dict of any keys at a: what such a call makes of it -/
def mixE (K : PySem.W.Frag) (w : World) (CE : Addr) (v : V) (G : Hp) (E : XK) : Prop := ∃ (a : Addr) (es : List En), v = .ref a ∧ G a = some (dM w a es) ∧ (∀ e ∈ es, ∀ G', Kp a G G' → Known K G' e.2.1 ∧ Known K G' e.2.2) ∧
    (inSize es.length = false → ∀ d G', ErrStep G G' d "words" .non → E (.ref CE) (some d) G') ∧
    (inSize es.length = true → (∃ e ∈ es, (wordV e.2.1 && wordV e.2.2) = false) ∧ ∀ d G', G d = none → Kp a G G' → G' d = some (.xd [("index", .non), ("reason", .str (Str.ofString "word"))]) → E (.ref CE) (some d) G')
/-- ascending_pairs(v): v no dict, or a dict at a -/
def spAscP (K : PySem.W.Frag) (w : World) (CE : Addr) : Sp := fun vs G Q E => ∃ v, vs = [v] ∧
  (mixE K w CE v G E ∨ (∃ t, TyX K G v t ∧ PySem.W.kitOne K t (.type "dict") = some false ∧ ∀ d G', ErrStep G G' d "words" .non → E (.ref CE) (some d) G') ∨
   ∃ (a : Addr) (kvs : List (Key × V)), v = .ref a ∧ G a = some (.dK kvs) ∧ (∀ e ∈ kvs, ∀ G', Kp a G G' → Known K G' (kV e.1) ∧ Known K G' e.2) ∧
    (inSize kvs.length = false → ∀ d G', ErrStep G G' d "words" .non → E (.ref CE) (some d) G') ∧
    (inSize kvs.length = true → (¬ ∀ e ∈ kvs, kvWord e = true) → ∀ d G', G d = none → Kp a G G' → G' d = some (.xd [("index", .non), ("reason", .str (Str.ofString "word"))]) → E (.ref CE) (some d) G') ∧
    (inSize kvs.length = true → (∀ e ∈ kvs, kvWord e = true) → ∀ ps D G', SortP kvs ps → G D = none → Same G G' → TupsAt G' D ps → Q (.ref D) G'))
section
variable {P : Program} {w : World} {K : PySem.W.Frag} {mg : Str → Option Value} {base : Heap}
abbrev apN : List Str := ["pairs", "first", "second"]
theorem scAscP : FnScope apN ["pairs"] (defScope sAscP) := ⟨rfl, rfl, rfl, by decide +kernel, rfl, by decide +kernel, by decide +kernel⟩
theorem shp_pair (p : Str × Str) : Shp (fun _ => true) (pairK p) := by
  refine ⟨(fun z => nomatch z), fun i k h => ⟨fun _ => ?_, fun _ => rfl⟩⟩
  match i, h with
  | 0, h => exact ⟨p.1, (Option.some.inj h).symm⟩
  | 1, h => exact ⟨p.2, (Option.some.inj h).symm⟩
theorem ok_ascP {C CE : Addr} (D : DefIn K mg "ascending_pairs" sAscP) (B : Blt mg) (T : SwapC K mg C) (TE : ErrN P w K mg base "InvalidStep" ["reason", "index"] CE) (F_is_word : Ok P w K mg base "is_word" (defArgs sIsWord) ["value"] 2 (spIsWord K)) :
    Ok P w K mg base "ascending_pairs" (defArgs sAscP) ["pairs"] 3 (spAscP K w CE) := by
  refine D.ok scAscP (fun vs G Q E h => ?_) (fun _ _ _ _ _ _ us hl => match us, hl with | [_], _ => rfl) (fun f cdv A out t G vs Q E hr h => ?_)
  · obtain ⟨v, rfl, _⟩ := h
    rfl
  · obtain ⟨v, rfl, h⟩ := h
    rcases h with ⟨a, es, rfl, ha, hv, k1, k2⟩ | h
    · refine ⟨_, (pss_cons (ps_if (PW.pt (pw_or (pt_not (pt_val (pe_callB call_isiM (by rfl) B.n_isinstance bt_isinstance (pa_cons (pv 0) (pa_cons (pe_bltn (v := .ty "dict") (by rfl) B.n_dict bt_dict rfl) pa_nil))))) (pw_or1 (pt_not (pt_chain op_le op_le pe_int (pe_callB call_lenM (by rfl) B.n_len bt_len (pa_cons (pv 0) pa_nil)) (pe_cval (pe_glob (v := .ref C) rfl T.g rfl))))))) (pss_one (ps_raise rfl (takes_of rfl rfl rfl rfl) (pmk_errN TE (hr.mono (by decide)) (pa_cons pe_str (pa_cons pe_non pa_nil))))) pss_nil)
        (pss_cons (ps_lock (ps_for (passes_of rfl) rfl (pi_itemsM (pv 0)) (pg_tup rfl (pgs_cons (pg_name (i := 1) scAscP.nd rfl (by first | exact Or.inl rfl | exact Or.inr rfl)) (pgs_cons (pg_name (i := 2) scAscP.nd rfl (by first | exact Or.inl rfl | exact Or.inr rfl)) pgs_nil)))
          (pss_one (ps_if (PW.pt (pw_or (pt_not (pt_val (pe_own F_is_word (hr.mono (by decide)) takes0 (pa_cons (pv 1) pa_nil)))) (pw_or1 (pt_not (pt_val (pe_own F_is_word (hr.mono (by decide)) takes0 (pa_cons (pv 2) pa_nil))))))) (pss_one (ps_raise rfl (takes_of rfl rfl rfl rfl) (pmk_errN TE (hr.mono (by decide)) (pa_cons pe_str (pa_cons pe_non pa_nil))))) pss_nil))))
        (pss_one (ps_ret (pe_callTy call_tuple_of (by rfl) B.n_tuple bt_tuple (pa_cons (pe_callB (cr_sortItems rfl) (by rfl) B.n_sorted bt_sorted (pa_cons (pe_bm0 PySem.F.plainAttrs_dict PySem.F.slot_dict_items PySem.F.type_dict_items mt_items (pv 0)) pa_nil)) pa_nil)))))), ?_⟩
      have raise : ∀ (reason : Str) (i : V) (G' : Hp), (∀ d G2, ErrStep G' G2 d reason i → E (.ref CE) (some d) G2) → _ := fun reason i G' kx => errN_end (fields := ["reason", "index"]) (C := CE) (ws := [.str reason, i]) (G1 := G') (Q := fun cls d G' => E cls d G') rfl (by show 2 ≤ 1000; decide) fun d hd => kx d _ ⟨hd, Qh.Same.new hd, upd_same⟩
      refine ⟨_, rfl, _, _, rfl, ha, _, rfl, ?_⟩
      refine iteF ?_
      refine ⟨_, rfl, a, es, rfl, ha, _, _, rfl, rfl, _, rfl, ?_⟩
      have words : inSize es.length = false → _ := fun e => raise "words" .non G (k1 e)
      refine ite2 (fun h1 => ?_) (fun h1 => ?_)
      case refine_2 =>
        refine ⟨_, rfl, iteT (words ?_)⟩
        unfold inSize
        rw [Bool.eq_false_iff.mpr h1, Bool.false_and]
      obtain ⟨mc, u10, cr, cv⟩ := T.most
      refine ⟨C, mc, .int 10, u10, rfl, cr, cv, ?_⟩
      refine ⟨_, _, rfl, rfl, _, rfl, ?_⟩
      refine ite2 (fun h2 => ?_) (fun h2 => ?_)
      · refine words ?_
        have h2 : decide ((es.length : Int) ≤ 10) = false := by simpa using h2
        unfold inSize
        rw [h2, Bool.and_false]
      have h2 : decide ((es.length : Int) ≤ 10) = true := by simpa using h2
      have size : inSize es.length = true := by
        unfold inSize
        rw [h1, h2]
        rfl
      obtain ⟨⟨e0, he0, hf0⟩, k2⟩ := k2 size
      refine ⟨a, _, ha, trivial, fun od => ?_⟩
      have kp0 : Kp a G (L2.upd G a (.frz od (dM w a es))) := fun b o ne e => by
        rw [upd_ne ne]
        exact e
      refine ⟨_, rfl, a, od, es, rfl, upd_same, for_it walk_itemsM (fun i σ' G' => ∃ o1 o2, σ' = [some (.ref a), o1, o2] ∧ Kp a G G' ∧ Same (L2.upd G a (.frz od (dM w a es))) G' ∧ ∀ j e, j < i → es[j]? = some e → (wordV e.2.1 && wordV e.2.2) = true)
        ⟨none, none, rfl, kp0, Same.refl _, fun j e hj _ => absurd hj (Nat.not_lt_zero j)⟩ (fun i σ' G' _ ⟨_, _, _, _, sm, _⟩ => sm _ _ upd_same) ?_ ?_⟩
      · rintro i y σ1 G1 G2 hi ⟨o1, o2, rfl, kp, sm, hw⟩ ⟨Tp, x1, x2, rfl, hT, rfl, e1, e2⟩
        have e1 : (es[i]?.map fun e => e.2.1) = some x1 := e1
        have e2 : (es[i]?.map fun e => e.2.2) = some x2 := e2
        cases hkv : es[i]? with
        | none =>
          rw [hkv] at e1
          cases e1
        | some e =>
          rw [hkv] at e1 e2
          obtain rfl : e.2.1 = x1 := Option.some.inj e1
          obtain rfl : e.2.2 = x2 := Option.some.inj e2
          have hm := List.mem_of_getElem? hkv
          have kpT : Kp a G (L2.upd G1 Tp (.tup [e.2.1, e.2.2])) := kp.trans (Kp.same (Same.new hT))
          have smT : Same (L2.upd G a (.frz od (dM w a es))) (L2.upd G1 Tp (.tup [e.2.1, e.2.2])) := sm.trans (Same.new hT)
          have aN : ∀ {G3 : Hp} {d : Addr}, Same (L2.upd G a (.frz od (dM w a es))) G3 → G3 d = none → G d = none := fun {G3 d} s3 hd => by
            have h1 := s3.free hd
            by_cases z : d = a
            · rw [z, upd_same] at h1
              cases h1
            · rw [upd_ne z] at h1
              exact h1
          have bad : ∀ G3, Kp a G G3 → Same (L2.upd G a (.frz od (dM w a es))) G3 → _ := fun G3 kp3 sm3 => raise "word" .non G3 fun d G4 es => k2 d G4 (aN sm3 es.1) (kp3.trans (Kp.same es.2.1)) es.2.2
          refine ⟨Tp, _, rfl, SqT.of upd_same, rfl, _, _, rfl, _, _, rfl, rfl, ?_⟩
          refine ⟨_, rfl, e.2.1, rfl, (hv e hm _ kpT).1, fun G3 s3 => ⟨_, rfl, ?_⟩⟩
          have kp3 := kpT.trans (Kp.same s3)
          have sm3 := smT.trans s3
          cases w1 : wordV e.2.1 with
          | false => exact iteT (bad G3 kp3 sm3)
          | true =>
            refine iteF ⟨_, rfl, e.2.2, rfl, (hv e hm _ kp3).2, fun G4 s4 => ⟨_, rfl, ?_⟩⟩
            have kp4 := kp3.trans (Kp.same s4)
            have sm4 := sm3.trans s4
            cases w2 : wordV e.2.2 with
            | false => exact iteT (bad G4 kp4 sm4)
            | true =>
              refine iteF ⟨_, _, rfl, kp4, sm4, fun j z hj hjz => ?_⟩
              by_cases hji : j = i
              · subst hji
                rw [hkv] at hjz
                rw [← Option.some.inj hjz, w1, w2]
                rfl
              · exact hw j z (by omega) hjz
      · rintro σ1 G1 ⟨o1, o2, rfl, kp, sm, hw⟩
        obtain ⟨j, hj⟩ := List.mem_iff_getElem?.mp he0
        rw [hw j e0 (List.getElem?_eq_some_iff.mp hj).1 hj] at hf0
        cases hf0
    refine ⟨_, (pss_cons (ps_if (PW.pt (pw_or (pt_not (pt_val (pe_callB call_isi (by rfl) B.n_isinstance bt_isinstance (pa_cons (pv 0) (pa_cons (pe_bltn (v := .ty "dict") (by rfl) B.n_dict bt_dict rfl) pa_nil))))) (pw_or1 (pt_not (pt_chain op_le op_le pe_int (pe_callB call_lenD (by rfl) B.n_len bt_len (pa_cons (pv 0) pa_nil)) (pe_cval (pe_glob (v := .ref C) rfl T.g rfl))))))) (pss_one (ps_raise rfl (takes_of rfl rfl rfl rfl) (pmk_errN TE (hr.mono (by decide)) (pa_cons pe_str (pa_cons pe_non pa_nil))))) pss_nil)
      (pss_cons (ps_lock (ps_for (passes_of rfl) rfl (pi_items (pv 0)) (pg_tup rfl (pgs_cons (pg_name (i := 1) scAscP.nd rfl (by first | exact Or.inl rfl | exact Or.inr rfl)) (pgs_cons (pg_name (i := 2) scAscP.nd rfl (by first | exact Or.inl rfl | exact Or.inr rfl)) pgs_nil)))
        (pss_one (ps_if (PW.pt (pw_or (pt_not (pt_val (pe_own F_is_word (hr.mono (by decide)) takes0 (pa_cons (pv 1) pa_nil)))) (pw_or1 (pt_not (pt_val (pe_own F_is_word (hr.mono (by decide)) takes0 (pa_cons (pv 2) pa_nil))))))) (pss_one (ps_raise rfl (takes_of rfl rfl rfl rfl) (pmk_errN TE (hr.mono (by decide)) (pa_cons pe_str (pa_cons pe_non pa_nil))))) pss_nil))))
      (pss_one (ps_ret (pe_callTy call_tuple_of (by rfl) B.n_tuple bt_tuple (pa_cons (pe_callB (cr_sortItems rfl) (by rfl) B.n_sorted bt_sorted (pa_cons (pe_bm0 PySem.F.plainAttrs_dict PySem.F.slot_dict_items PySem.F.type_dict_items mt_items (pv 0)) pa_nil)) pa_nil)))))), ?_⟩
    have raise : ∀ (reason : Str) (i : V) (G' : Hp), (∀ d G2, ErrStep G' G2 d reason i → E (.ref CE) (some d) G2) → _ := fun reason i G' kx => errN_end (fields := ["reason", "index"]) (C := CE) (ws := [.str reason, i]) (G1 := G') (Q := fun cls d G' => E cls d G') rfl (by show 2 ≤ 1000; decide) fun d hd => kx d _ ⟨hd, Qh.Same.new hd, upd_same⟩
    rcases h with ⟨ty, hty, hk, kE⟩ | ⟨a, kvs, rfl, ha, hv, k1, k2, k3⟩
    · refine ⟨_, rfl, _, _, _, _, _, rfl, .ty _, hty, hk, _, rfl, ?_⟩
      exact iteT (raise "words" .non G kE)
    · refine ⟨_, rfl, _, _, _, _, _, rfl, .ty _, .base (.dK ha), kit_ty (r := true) (by decide +kernel), _, rfl, ?_⟩
      refine iteF ?_
      refine ⟨_, rfl, a, kvs, rfl, ha, _, _, rfl, rfl, _, rfl, ?_⟩
      have words : inSize kvs.length = false → _ := fun e => raise "words" .non G (k1 e)
      refine ite2 (fun h1 => ?_) (fun h1 => ?_)
      case refine_2 =>
        refine ⟨_, rfl, iteT (words ?_)⟩
        unfold inSize
        rw [Bool.eq_false_iff.mpr h1, Bool.false_and]
      obtain ⟨mc, u10, cr, cv⟩ := T.most
      refine ⟨C, mc, .int 10, u10, rfl, cr, cv, ?_⟩
      refine ⟨_, _, rfl, rfl, _, rfl, ?_⟩
      refine ite2 (fun h2 => ?_) (fun h2 => ?_)
      · refine words ?_
        have h2 : decide ((kvs.length : Int) ≤ 10) = false := by simpa using h2
        unfold inSize
        rw [h2, Bool.and_false]
      have h2 : decide ((kvs.length : Int) ≤ 10) = true := by simpa using h2
      have size : inSize kvs.length = true := by
        unfold inSize
        rw [h1, h2]
        rfl
      have few : kvs.length ≤ 10 := by
        have := of_decide_eq_true h2
        omega
      have k2 := k2 size
      have k3 := k3 size
      -- the walk, the dict locked
      refine ⟨a, _, ha, trivial, fun od => ?_⟩
      have kp0 : Kp a G (L2.upd G a (.frz od (.dK kvs))) := fun b o ne e => by
        rw [upd_ne ne]
        exact e
      refine ⟨_, rfl, a, od, kvs, rfl, upd_same, for_it walk_items (fun i σ' G' => ∃ o1 o2, σ' = [some (.ref a), o1, o2] ∧ Kp a G G' ∧ Same (L2.upd G a (.frz od (.dK kvs))) G' ∧ ∀ j e, j < i → kvs[j]? = some e → kvWord e = true)
        ⟨none, none, rfl, kp0, Same.refl _, fun j e hj _ => absurd hj (Nat.not_lt_zero j)⟩ (fun i σ' G' _ ⟨_, _, _, _, sm, _⟩ => sm _ _ upd_same) ?_ ?_⟩
      · rintro i y σ1 G1 G2 hi ⟨o1, o2, rfl, kp, sm, hw⟩ ⟨Tp, x1, x2, rfl, hT, rfl, e1, e2⟩
        have e1 : (kvs[i]?.map fun kv => kV kv.1) = some x1 := e1
        have e2 : (kvs[i]?.map Prod.snd) = some x2 := e2
        cases hkv : kvs[i]? with
        | none =>
          rw [hkv] at e1
          cases e1
        | some e =>
          rw [hkv] at e1 e2
          obtain rfl : kV e.1 = x1 := Option.some.inj e1
          obtain rfl : e.2 = x2 := Option.some.inj e2
          have hm := List.mem_of_getElem? hkv
          have kpT : Kp a G (L2.upd G1 Tp (.tup [kV e.1, e.2])) := kp.trans (Kp.same (Same.new hT))
          have smT : Same (L2.upd G a (.frz od (.dK kvs))) (L2.upd G1 Tp (.tup [kV e.1, e.2])) := sm.trans (Same.new hT)
          have aN : ∀ {G3 : Hp} {d : Addr}, Same (L2.upd G a (.frz od (.dK kvs))) G3 → G3 d = none → G d = none := fun {G3 d} s3 hd => by
            have h1 := s3.free hd
            by_cases z : d = a
            · rw [z, upd_same] at h1
              cases h1
            · rw [upd_ne z] at h1
              exact h1
          have bad : ∀ G3, Kp a G G3 → Same (L2.upd G a (.frz od (.dK kvs))) G3 → kvWord e = false → _ := fun G3 kp3 sm3 hf => raise "word" .non G3 fun d G4 es => k2 (fun all => by rw [all e hm] at hf; cases hf) d G4 (aN sm3 es.1) (kp3.trans (Kp.same es.2.1)) es.2.2
          refine ⟨Tp, _, rfl, SqT.of upd_same, rfl, _, _, rfl, _, _, rfl, rfl, ?_⟩
          refine ⟨_, rfl, kV e.1, rfl, (hv e hm _ kpT).1, fun G3 s3 => ⟨_, rfl, ?_⟩⟩
          have kp3 := kpT.trans (Kp.same s3)
          have sm3 := smT.trans s3
          cases w1 : wordV (kV e.1) with
          | false =>
            refine iteT (bad G3 kp3 sm3 ?_)
            unfold kvWord
            rw [w1, Bool.false_and]
          | true =>
            refine iteF ⟨_, rfl, e.2, rfl, (hv e hm _ kp3).2, fun G4 s4 => ⟨_, rfl, ?_⟩⟩
            have kp4 := kp3.trans (Kp.same s4)
            have sm4 := sm3.trans s4
            cases w2 : wordV e.2 with
            | false =>
              refine iteT (bad G4 kp4 sm4 ?_)
              unfold kvWord
              rw [w1, w2]
              rfl
            | true =>
              refine iteF ⟨_, _, rfl, kp4, sm4, fun j z hj hjz => ?_⟩
              by_cases hji : j = i
              · subst hji
                rw [hkv] at hjz
                rw [← Option.some.inj hjz]
                unfold kvWord
                rw [w1, w2]
                rfl
              · exact hw j z (by omega) hjz
      · rintro σ1 G1 ⟨o1, o2, rfl, kp, sm, hw⟩
        have a1 : G1 a = some (.frz od (.dK kvs)) := sm _ _ upd_same
        refine ⟨a1, ?_⟩
        have all : ∀ e ∈ kvs, kvWord e = true := fun e he => by
          obtain ⟨j, hj⟩ := List.mem_iff_getElem?.mp he
          exact hw j e (List.getElem?_eq_some_iff.mp hj).1 hj
        have smG : Same G (L2.upd G1 a (.dK kvs)) := fun b o e => by
          by_cases z : b = a
          · rw [z, ha] at e
            rw [z, upd_same]
            exact e
          · rw [upd_ne z]
            exact kp b o z e
        obtain ⟨qs, rfl, hqs⟩ := kvs_of all
        generalize hG2 : L2.upd G1 a (.dK (qs.map kvOf)) = G2 at smG
        have a2 : G2 a = some (.dK (qs.map kvOf)) := by rw [← hG2, upd_same]
        refine ⟨_, rfl, .inr (.inr (.inl ⟨rfl, .inl ⟨_, a2⟩⟩)), a, _, rfl, rfl, a2, fun p hp => ?_⟩
        refine ⟨p, a, qs.map (fun z => ((.inr z.1, .inr z.2) : Key × Key)), fun _ => true, rfl, upd_same, ?_, fun e he => ?_, fun H' l ps kp' perm pw hl hl' hps => ?_⟩
        · rw [upd_ne (ne_of_none a2 hp), a2, List.map_map]
          rfl
        · obtain ⟨z, _, rfl⟩ := List.mem_map.mp he
          exact shp_pair z
        · have smP : Same G H' := smG.trans ((Same.new hp).trans kp')
          -- the texts of the pairs
          have back : ∃ rs : List (Str × Str), ps.map (·.2) = rs.map pairK ∧ rs.Perm qs := by
            have e0 : (qs.map (fun z => ((.inr z.1, .inr z.2) : Key × Key))).map (fun e => [e.1, e.2]) = qs.map pairK := by
              rw [List.map_map]
              rfl
            rw [e0] at perm
            obtain ⟨rs, p1, p2⟩ := perm_lift pairK perm qs rfl
            exact ⟨rs, p2.symm, p1⟩
          obtain ⟨rs, e1, p1⟩ := back
          have tups : PairsAt H' (ps.map (·.1)) rs := by
            clear perm pw hl hl' p1
            induction ps generalizing rs with
            | nil =>
              cases rs with
              | nil => exact .nil
              | cons r rs => cases e1
            | cons z ps ih =>
              cases rs with
              | nil => cases e1
              | cons r rs =>
                obtain ⟨h1, h2⟩ := List.cons.inj e1
                refine .cons ?_ (ih (fun y hy => hps y (List.mem_cons_of_mem _ hy)) rs h2)
                have := hps z List.mem_cons_self
                rw [show z.2 = pairK r from h1] at this
                exact this
          refine ⟨l, _, rfl, .inl ⟨SqL.of hl', fun D hD => ?_⟩⟩
          refine k3 all rs D _ ⟨p1.map kvOf, ?_⟩ (smP.free hD) (smP.trans (Same.new hD)) ⟨ps.map (·.1), by rw [upd_same, List.map_map]; rfl, tups.same fun b t e => Same.new hD _ _ e⟩
          have : ps.map (·.2) = rs.map pairK := e1
          have pw2 : (ps.map (·.2)).Pairwise (fun x y => ltK y x = false) := List.pairwise_map.mpr pw
          rw [this] at pw2
          exact List.pairwise_map.mp pw2
end
/-- an instance with these pairs -/
def SwapAt (C : Addr) (G : Hp) (a : Addr) (ps : List (Str × Str)) : Prop := ∃ dx D, G a = some (.ins C dx [("pairs", .ref D)]) ∧ TupsAt G D ps
theorem SwapAt.same {C : Addr} {G G' : Hp} {a : Addr} {ps : List (Str × Str)} (h : SwapAt C G a ps) (s : Same G G') : SwapAt C G' a ps := by
  obtain ⟨dx, D, h1, h2⟩ := h
  exact ⟨dx, D, s _ _ h1, h2.same fun b l e => s _ _ e⟩
/-- .. while the instance at x is written -/
theorem tups_put {G : Hp} {D x C dx : Addr} {fs : List (Str × V)} {o : HO} {ps : List (Str × Str)} (h : TupsAt G D ps) (hx : G x = some (.ins C dx fs)) : TupsAt (L2.upd G x o) D ps := h.same fun a l e => by
  rw [upd_ne (tup_ne_ins hx a l e)]
  exact e
/-- __init__(self, **pairs): the dict at p -/
def spInit (K : PySem.W.Frag) (C CE : Addr) : Sp := fun vs G Q E => ∃ (x dx p : Addr) (kvs : List (Key × V)), vs = [.ref x, .ref p] ∧ G x = some (.ins C dx []) ∧ G p = some (.dK kvs) ∧ (∀ e ∈ kvs, ∀ G', Kp p G G' → Known K G' (kV e.1) ∧ Known K G' e.2) ∧
  (inSize kvs.length = false → ∀ d G', ErrStep G G' d "words" .non → E (.ref CE) (some d) G') ∧
  (inSize kvs.length = true → (¬ ∀ e ∈ kvs, kvWord e = true) → ∀ d G', G d = none → Kp p G G' → G' d = some (.xd [("index", .non), ("reason", .str (Str.ofString "word"))]) → E (.ref CE) (some d) G') ∧
  (inSize kvs.length = true → (∀ e ∈ kvs, kvWord e = true) → ∀ ps D G', SortP kvs ps → Kp x G G' → G' x = some (.ins C dx [("pairs", .ref D)]) → TupsAt G' D ps → Q .non G')
section
variable {P : Program} {w : World} {K : PySem.W.Frag} {mg : Str → Option Value} {base : Heap}
theorem scInit : FnScope ["self", "pairs"] ["self", "pairs"] (defScope sInit) := ⟨rfl, rfl, rfl, by decide +kernel, rfl, by decide +kernel, by decide +kernel⟩
theorem body_init {C CE : Addr} (T : SwapC K mg C) (F_ascP : Ok P w K mg base "ascending_pairs" (defArgs sAscP) ["pairs"] 3 (spAscP K w CE))
    {f : Addr} (cdv : Value) (A : Around) (out : List Env) (t : Shared) (G : Hp) (vs : List V) (Q : VK) (E : XK) (hr : Room 3 (A.deeper (envOfC "Swap.__init__" (defScope sInit) t.heap.objs.size f cdv))) (h : spInit K C CE vs G Q E) :
    ∃ rd, PSs (cxOf (L2.CX P w) P w K mg base ["self", "pairs"] "Swap.__init__" (defScope sInit) f cdv A out t G E) (defBody sInit) rd ∧ rd { nx := fun _ G' => Q .non G', rt := Q } (start ["self", "pairs"] vs) G := by
  obtain ⟨x, dx, p, kvs, rfl, hx, hp, hv, k1, k2, k3⟩ := h
  refine ⟨_, pss_one (ps_fld (pv 0) (pe_own F_ascP hr (takes_of rfl rfl rfl rfl) (pa_cons (pv 1) pa_nil)) rfl), ?_⟩
  refine ⟨_, rfl, .ref p, rfl, .inr (.inr ⟨p, kvs, rfl, hp, hv, k1, k2, fun h1 h2 ps D G' hs nD sm ht => ?_⟩)⟩
  have hx' : G' x = some (.ins C dx []) := sm _ _ hx
  refine ⟨_, rfl, x, C, dx, [], rfl, hx', T.cl, T.n1, by show 0 < 1000; decide, ?_⟩
  exact k3 h1 h2 ps D _ hs ((Kp.same sm).trans Kp.self) (by rw [upd_same]; rfl) (tups_put ht hx')
/-- the call with the keywords ks -/
theorem ok_init {C CE f : Addr} {fd : FuncData} {ks : List Str} (nd : ks.Nodup) (few : ks.length ≤ 1000) (F : Fun K "__init__" "Swap.__init__" sInit f fd) (T : SwapC K mg C) (F_ascP : Ok P w K mg base "ascending_pairs" (defArgs sAscP) ["pairs"] 3 (spAscP K w CE))
    (hb : ∀ (kV doc pm cdv ct : Value) (an : Option Addr) (u : Value) (us : List Value), us.length = ks.length → bindArgs (PySem.W.fnOf "__init__" "Swap.__init__" (defArgs sInit) (defBody sInit) (defScope sInit) .none kV doc pm an cdv ct) ⟨[u], ks.zip us⟩ =
      ((alloc ({ cls := .type "dict", data := .dict #[] } : Obj) : Sem Addr) >>= fun d => forIn (ks.zip us) PUnit.unit (fun x _ => (nsSet d x.1 x.2 >>= fun _ => pure (ForInStep.yield PUnit.unit))) >>= fun _ => pure [(("self" : Str), u), (("pairs" : Str), Value.ref d)])) :
    FnRW P w K mg base (L2.CX P w) 4 f ks (spKw ks (spInit K C CE)) := by
  obtain ⟨oc, od, kV, doc, pm, an, cdv, ct, osl, rfl, lk, hcd⟩ := F.ex
  exact fn_kw (p1 := "self") (pk := "pairs") nd few lk hcd scInit StX.cxUp (hb kV doc pm cdv ct an) fun A out t G vs Q E hr h => body_init T F_ascP cdv A out t G vs Q E hr h
/-- .. with the keyword a alone -/
theorem ok_initA {C CE f : Addr} {fd : FuncData} (F : Fun K "__init__" "Swap.__init__" sInit f fd) (T : SwapC K mg C) (F_ascP : Ok P w K mg base "ascending_pairs" (defArgs sAscP) ["pairs"] 3 (spAscP K w CE)) :
    FnRW P w K mg base (L2.CX P w) 4 f ["a"] (spKw ["a"] (spInit K C CE)) :=
  ok_init (by decide) (by decide) F T F_ascP fun kV doc pm cdv ct an u us hl => match us, hl with
    | [_], _ => rfl
/-- Swap.of(v) -/
def spOf (K : PySem.W.Frag) (w : World) (C CE : Addr) : Sp := fun vs G Q E => ∃ v, vs = [.ref C, v] ∧
  (mixE K w CE v G E ∨ (∃ t, TyX K G v t ∧ PySem.W.kitOne K t (.type "dict") = some false ∧ ∀ d G', ErrStep G G' d "words" .non → E (.ref CE) (some d) G') ∨
   ∃ (a : Addr) (kvs : List (Key × V)), v = .ref a ∧ G a = some (.dK kvs) ∧ (∀ e ∈ kvs, ∀ G', Kp a G G' → Known K G' (kV e.1) ∧ Known K G' e.2) ∧
    (inSize kvs.length = false → ∀ d G', ErrStep G G' d "words" .non → E (.ref CE) (some d) G') ∧
    (inSize kvs.length = true → (¬ ∀ e ∈ kvs, kvWord e = true) → ∀ d G', G d = none → Kp a G G' → G' d = some (.xd [("index", .non), ("reason", .str (Str.ofString "word"))]) → E (.ref CE) (some d) G') ∧
    (inSize kvs.length = true → (∀ e ∈ kvs, kvWord e = true) → ∀ ps x G', SortP kvs ps → G x = none → Same G G' → SwapAt C G' x ps → Q (.ref x) G'))
abbrev ofN : List Str := ["cls", "pairs", "checked", "swap"]
theorem scOf : FnScope ofN ["cls", "pairs"] (defScope sOf) := ⟨rfl, rfl, rfl, by decide +kernel, rfl, by decide +kernel, by decide +kernel⟩
theorem ok_of {C CE f fI : Addr} {fd : FuncData} (F : Fun K "of" "Swap.of" sOf f fd) (T : SwapC K mg C) (M : Mk K C fI) (F_ascP : Ok P w K mg base "ascending_pairs" (defArgs sAscP) ["pairs"] 3 (spAscP K w CE)) (FI : FnRW P w K mg base (L2.CX P w) 4 fI ["a"] (spKw ["a"] (spInit K C CE))) :
    FnOk P w K mg base (L2.CX P w) 6 f fd ["cls", "pairs"] (spOf K w C CE) := by
  refine F.okX scOf (fun vs G Q E h => ?_) (fun cdv A out t G vs Q E hr h => ?_)
  · obtain ⟨v, rfl, _⟩ := h
    rfl
  · obtain ⟨v, rfl, h⟩ := h
    refine ⟨_, (pss_cons (ps_set (i := 2) scOf.nd rfl (by first | exact Or.inl rfl | exact Or.inr rfl) (pe_own F_ascP (hr.mono (by decide)) (takes_of rfl rfl rfl rfl) (pa_cons (pv 1) pa_nil)))
      (pss_cons (ps_set (i := 3) scOf.nd rfl (by first | exact Or.inl rfl | exact Or.inr rfl) (pe_makeWL (i := 0) M FI hr takes0 rfl (by first | exact Or.inl rfl | exact Or.inr rfl) (pk_cons pe_str pk_nil)))
      (pss_cons (ps_fld (pv 3) (pv 2) rfl)
      (pss_one (ps_ret (pv 3)))))), ?_⟩
    rcases h with hm | ⟨ty, hty, hk, kE⟩ | ⟨a, kvs, rfl, ha, hv, k1, k2, k3⟩
    · exact ⟨_, rfl, v, rfl, .inl hm⟩
    · exact ⟨_, rfl, v, rfl, .inr (.inl ⟨ty, hty, hk, kE⟩)⟩
    · refine ⟨_, rfl, .ref a, rfl, .inr (.inr ⟨a, kvs, rfl, ha, hv, k1, k2, fun h1 h2 ps D G1 hs nD s1 ht => ?_⟩)⟩
      refine ⟨rfl, rfl, fun x dx hx hdx ne => ⟨.ref x, [.str (Str.ofString "a")], rfl, rfl, fun p hp => ?_⟩⟩
      have px : p ≠ x := fun e => by
        rw [e, upd_same] at hp
        cases hp
      have s3 : Same G1 (L2.upd (L2.upd (L2.upd G1 dx (.own x)) x (.ins C dx [])) p (.dK (kwKvs ["a"] [.str (Str.ofString "a")]))) := fun b o e => by
        refine Same.new hp _ _ ?_
        rw [upd_ne (ne_of_none e hx), upd_ne (ne_of_none e hdx)]
        exact e
      refine ⟨x, dx, p, kwKvs ["a"] [.str (Str.ofString "a")], rfl, by rw [upd_ne px.symm, upd_same], upd_same, fun e he G' _ => ?_, fun h => absurd h (by decide), fun _ h => absurd (fun e he => ?_) h, fun _ _ ps' D' G4 hs' kp4 ix4 ht4 => ⟨rfl, ?_⟩⟩
      · rw [List.mem_singleton.mp he]
        exact ⟨.inl ⟨_, rfl, by decide +kernel⟩, .inl ⟨_, rfl, by decide +kernel⟩⟩
      · rw [List.mem_singleton.mp he]
        decide +kernel
      · have k4 : ∀ b o, G1 b = some o → G4 b = some o := fun b o e => kp4 b o (ne_of_none e hx) (s3 _ _ e)
        refine ⟨_, rfl, _, rfl, x, C, dx, _, rfl, ix4, T.cl, T.n1, by show 1 < 1000; decide, ?_⟩
        have fin : ∀ G5, G5 = L2.upd G4 x (.ins C dx [("pairs", .ref D)]) → Q (.ref x) G5 := fun G5 e5 => by
          refine k3 h1 h2 ps x G5 hs (s1.free hx) (fun b o e => ?_) ⟨dx, D, by rw [e5, upd_same], ?_⟩
          · have e1 := s1 _ _ e
            rw [e5, upd_ne (ne_of_none e1 hx)]
            exact k4 _ _ e1
          · rw [e5]
            exact tups_put (ht.same fun b l e => k4 _ _ e) ix4
        exact ⟨_, rfl, fin _ rfl⟩
/-- what a swap makes of a word or of none -/
def resW (ps : List (Str × Str)) (v : V) : V := match ps.find? (fun p => decide (V.str p.1 = v)) with
  | some p => .str p.2
  | none => v
def spResult (C : Addr) : Sp := fun vs G Q _ => ∃ (a : Addr) (ps : List (Str × Str)) (v : V), vs = [.ref a, v] ∧ SwapAt C G a ps ∧ (∀ y, scal v (.str y) = true) ∧ Q (resW ps v) G
abbrev resN : List Str := ["self", "value", "first", "second"]
theorem scResult : FnScope resN ["self", "value"] (defScope sResult) := ⟨rfl, rfl, rfl, by decide +kernel, rfl, by decide +kernel, by decide +kernel⟩
theorem ok_result {C f : Addr} {fd : FuncData} (F : Fun K "result" "Swap.result" sResult f fd) (T : SwapC K mg C) : FnOk P w K mg base (L2.CX P w) 1 f fd ["self", "value"] (spResult C) := by
  refine F.okX scResult (fun vs G Q E h => ?_) (fun cdv A out t G vs Q E hr h => ?_)
  · obtain ⟨a, ps, v, rfl, _⟩ := h
    rfl
  · obtain ⟨a, ps, v, rfl, ⟨dx, D, h1, as, h2, h3⟩, fv, k⟩ := h
    refine ⟨_, (pss_cons (ps_for (passes_of rfl) rfl (pi_tup (pe_fld (pv 0) rfl)) (pg_tup rfl (pgs_cons (pg_name (i := 2) scResult.nd rfl (by first | exact Or.inl rfl | exact Or.inr rfl)) (pgs_cons (pg_name (i := 3) scResult.nd rfl (by first | exact Or.inl rfl | exact Or.inr rfl)) pgs_nil)))
        (pss_one (ps_if (pt_cmpR op_eq (pv 1) (pv 2) (nomark _)) (pss_one (ps_ret (pv 3))) pss_nil)))
      (pss_one (ps_ret (pv 1)))), ?_⟩
    have h3l := h3.len
    refine ⟨_, rfl, a, C, dx, _, _, rfl, h1, T.cl, T.n1, rfl, D, rfl, ⟨_, SqT.of h2⟩, for_it walk_tup (fun i σ' G' => ∃ o1 o2, σ' = [some (.ref a), some v, o1, o2] ∧ G' = G ∧ ∀ j p, j < i → ps[j]? = some p → V.str p.1 ≠ v)
      ⟨none, none, rfl, rfl, fun j p hj _ => absurd hj (Nat.not_lt_zero j)⟩ (fun i σ' G' _ ⟨_, _, _, e, _⟩ => by rw [e]; exact SqT.of h2) ?_ ?_⟩
    · rintro i y σ1 G1 G1' hi ⟨o1, o2, rfl, rfl, hno⟩ ⟨rfl, hy⟩
      obtain ⟨ai, hai, rfl⟩ := map_at hy
      obtain ⟨p, hp, hq⟩ := h3.at hai
      refine ⟨ai, _, rfl, SqT.of hq, rfl, _, _, rfl, _, _, rfl, rfl, ?_⟩
      refine ⟨_, rfl, _, rfl, fv p.1, _, rfl, ?_⟩
      refine ite2 (fun hq => ?_) (fun hq => ?_)
      · have hq := of_decide_eq_true hq
        have e : ps.find? (fun p => decide (V.str p.1 = v)) = some p := by
          refine List.find?_eq_some_iff_getElem.mpr ⟨decide_eq_true hq.symm, i, (List.getElem?_eq_some_iff.mp hp).1, (List.getElem?_eq_some_iff.mp hp).2, fun j hj => ?_⟩
          have hjl : j < ps.length := Nat.lt_trans hj (List.getElem?_eq_some_iff.mp hp).1
          rw [decide_eq_false (hno j _ hj (List.getElem?_eq_getElem hjl))]
          rfl
        unfold resW at k
        rw [e] at k
        exact ⟨_, rfl, k⟩
      · have hq : V.str p.1 ≠ v := fun e => hq (decide_eq_true e.symm)
        refine ⟨_, _, rfl, rfl, fun j z hj hjz => ?_⟩
        by_cases hji : j = i
        · subst hji
          rw [hp] at hjz
          rw [← Option.some.inj hjz]
          exact hq
        · exact hno j z (by omega) hjz
    · rintro σ1 G1 ⟨o1, o2, rfl, rfl, hno⟩
      have e : ps.find? (fun p => decide (V.str p.1 = v)) = none := List.find?_eq_none.mpr fun p hm => by
        obtain ⟨j, hj⟩ := List.getElem?_of_mem hm
        have := hno j p (by rw [List.length_map, h3l]; exact (List.getElem?_eq_some_iff.mp hj).1) hj
        rw [decide_eq_false this]
        exact Bool.false_ne_true
      unfold resW at k
      rw [e] at k
      exact ⟨_, rfl, k⟩
end
end K04.Sw
set_option Elab.async false
set_option linter.all false
set_option maxRecDepth 100000
set_option maxHeartbeats 4000000
/-! Data with small dicts: what is read, repr of it; new lists apart from sys.modules. -/
namespace Qv
open PySem PySem.Spec PyProof.Rows L2 Qh
mutual
inductive Dw (G : Hp) : V → PyData → Prop
  | non : Dw G .non .none
  | bl (b : Bool) : Dw G (.bl b) (.bool b)
  | int (i : Int) : Dw G (.int i) (.int i)
  | str (x : Str) : Dw G (.str x) (.str x)
  | lst {a : Addr} {xs : List V} {ds : List PyData} : a ≠ sysModules → G a = some (.lst xs) → DwAll G xs ds → Dw G (.ref a) (.list ds)
  | tup {a : Addr} {xs : List V} {ds : List PyData} : G a = some (.tup xs) → DwAll G xs ds → Dw G (.ref a) (.tuple ds)
  | dct {a : Addr} {k : Str} {i : Int} : G a = some (.dK [(.inr k, .int i)]) → Dw G (.ref a) (.dict [(.str k, .int i)])
inductive DwAll (G : Hp) : List V → List PyData → Prop
  | nil : DwAll G [] []
  | cons {v : V} {vs : List V} {d : PyData} {ds : List PyData} : Dw G v d → DwAll G vs ds → DwAll G (v :: vs) (d :: ds)
end
mutual
theorem Dw.same {G G' : Hp} (s : Same G G') : ∀ {v : V} {d : PyData}, Dw G v d → Dw G' v d
  | _, _, .non => .non
  | _, _, .bl b => .bl b
  | _, _, .int i => .int i
  | _, _, .str x => .str x
  | _, _, .lst n h r => .lst n (s _ _ h) (DwAll.same s r)
  | _, _, .tup h r => .tup (s _ _ h) (DwAll.same s r)
  | _, _, .dct h => .dct (s _ _ h)
theorem DwAll.same {G G' : Hp} (s : Same G G') : ∀ {vs : List V} {ds : List PyData}, DwAll G vs ds → DwAll G' vs ds
  | _, _, .nil => .nil
  | _, _, .cons h r => .cons (Dw.same s h) (DwAll.same s r)
end
section
variable {X : Cx} {pins : List (Addr × Obj)} {σ : L2.St} {G : Hp} {s : Shared}
mutual
theorem Dw.reads (I : Inv X pins σ G s) : ∀ {v : V} {d : PyData} (u : Value), Dw G v d → RelV v u → ∃ as, Reads s.heap u d as ∧ sysModules ∉ as
  | _, _, u, .non, r => by
    cases r
    exact ⟨_, .none, fun h => nomatch h⟩
  | _, _, u, .bl b, r => by
    cases r
    exact ⟨_, .bool b, fun h => nomatch h⟩
  | _, _, u, .int i, r => by
    obtain ⟨t, rfl⟩ := r
    exact ⟨_, .int i t, fun h => nomatch h⟩
  | _, _, u, .str x, r => by
    obtain ⟨t, rfl⟩ := r
    exact ⟨_, .str x t, fun h => nomatch h⟩
  | _, _, u, .lst (a := a) n h rr, r => by
    cases r
    obtain ⟨z, its, m, rv, hl, e⟩ := I.lstM h
    obtain ⟨as, hr, hs⟩ := DwAll.reads I its rr rv
    refine ⟨_, .list e rfl rfl hr, fun hm => ?_⟩
    rcases List.mem_cons.mp hm with hm | hm
    · exact n hm.symm
    · exact hs hm
  | _, _, u, .tup h rr, r => by
    cases r
    obtain ⟨its, rv, ⟨o, ho, hc, n, hd⟩, _⟩ := I.tuple (SqT.of h)
    obtain ⟨as, hr, hs⟩ := DwAll.reads I _ rr rv
    exact ⟨_, .tuple ho hc hd hr, hs⟩
  | _, _, u, .dct (a := a) (k := k) (i := i) h, r => by
    cases r
    obtain ⟨z, hsm, vs, kv, o, es, ep, ho, ex, hd, ko, pr, nd⟩ := I.hok a _ h
    have hna : a ≠ sysModules := fun e => by
      rw [e] at hsm
      exact absurd hsm (by decide)
    cases kv with
    | @cons _ q _ qs h1 h2 =>
      cases h2
      obtain ⟨qk, qv⟩ := q
      obtain ⟨e1, t, e2⟩ := h1
      have e1 : Sum.inr k = qk := e1
      have e2 : qv = Value.int i t := e2
      subst e1 e2
      generalize hes : es.toList = l at pr
      cases pr with
      | @cons e _ es' _ p1 p2 p3 =>
        cases p3
        have p1 : keyIs (Sum.inr k) e.key = true := p1
        rcases keyIs_shape p1 with ⟨_, _, z1, _⟩ | ⟨x, t2, z1, z2⟩
        · cases z1
        · cases z1
          refine ⟨_, .dict (kvs := [(.str k, .int i)]) ho ex.1 hd (as := [] ++ []) (bs := [] ++ []) ?_ ?_, ?_⟩
          · rw [hes]
            show ReadsAll s.heap [e.key] [.str k] ([] ++ [])
            rw [z2]
            exact .cons (.str k t2) .nil
          · rw [hes]
            show ReadsAll s.heap [e.val] [.int i] ([] ++ [])
            have p2 : e.val = Value.int i t := p2
            rw [p2]
            exact .cons (.int i t) .nil
          · intro hm
            simp at hm
            exact hna hm.symm
theorem DwAll.reads (I : Inv X pins σ G s) : ∀ {vs : List V} {ds : List PyData} (us : List Value), DwAll G vs ds → Vals vs us → ∃ as, ReadsAll s.heap us ds as ∧ sysModules ∉ as
  | _, _, us, .nil, r => by
    cases r
    exact ⟨_, .nil, fun h => nomatch h⟩
  | _, _, us, .cons h rr, r => by
    cases r with
    | cons r1 r2 =>
      obtain ⟨as, h1, s1⟩ := Dw.reads I _ h r1
      obtain ⟨bs, h2, s2⟩ := DwAll.reads I _ rr r2
      exact ⟨_, .cons h1 h2, fun hm => (List.mem_append.mp hm).elim s1 s2⟩
end
end
section
variable {X : Cx} {es : List Expr} {t : TA} {pos : Pos}
end
end Qv
set_option Elab.async false
set_option linter.all false
set_option maxRecDepth 100000
set_option maxHeartbeats 4000000
/-! o.m(k = v), C.m(k = v); d.get(x, z) with x None; dict(d); repr of a dict of texts. -/
namespace Qmk
open PySem PySem.Spec PyProof.Rows L2 TL Qh Qi Ql ClX
/-- o.m(k = v) -/
def tMethK (C : Addr) (m : Str) (sp : Sp) (E : L2.St → XK) (ta : TE) (tk : TA) : TE := fun σ H Q => ta σ H fun x H1 => ∃ a dx fs, x = .ref a ∧ H1 a = some (.ins C dx fs) ∧ fs.lookup m = none ∧ tk σ H1 fun zs H2 => sp (x :: zs) H2 Q (E σ)
section
variable {X : Cx} {W : WX} {k : Nat} {f C : Addr} {fd : FuncData} {ps ks : List Str} {sp : Sp} {m : Str} {o : Expr} {kws : List Keyword} {ta : TE} {tk : TA} {apos pos : Pos}
theorem pe_methK {pl : Sem Bool} (he : PE X o ta) (c : Cls X.K C) (hm : Meth X.K C m f) (F : FnOk X.prog X.w X.K X.mg X.base (L2.CX X.prog X.w) k f fd ps sp) (hr : Room k X.A) (hb : ∀ (u : Value) (ws : List Value), ws.length + 1 = ps.length → bindArgs fd ⟨[u], ks.zip ws⟩ = pure (ps.zip (u :: ws))) (tks : Takes X W) (hkw : PK X kws tk)
    (hall : (backToKw pos (keywordEach kws X.env)).all (·.1.isSome) = true := by rfl) (hks : (backToKw pos (keywordEach kws X.env)).filterMap (·.1) = ks := by rfl)
    (hpl : ((backTo pos (starEach [] X.env)).any (·.1) || (backToKw pos (keywordEach kws X.env)).any (·.1.isNone)) = false := by rfl)
    (ht : eval (.Call (.Attribute o m apos) [] kws pos) X.env = (do
      let ov ← eval o X.env
      standAt apos.atName
      let (f, first) ← holding [ov] (getMethod ov m pl)
      callWith pos f first (backTo pos (starEach [] X.env)) (backToKw pos (keywordEach kws X.env))) := by rfl) :
    PE X (.Call (.Attribute o m apos) [] kws pos) (tMethK C m sp (WE W) ta tk) := by
  refine ⟨fun pins s σ H Q I h => ?_⟩
  refine PySem.W.methodCall_KW (pl := pl) (thn (he.run pins s σ H _ I h) fun u s1 ⟨x, H1, I1, rx, a, dx, fs, ex, ea, l, q⟩ => ?_) ht
  subst ex
  obtain rfl : u = Value.ref a := rx
  refine getmeth_ok I1 ea c hm l ?_
  refine PySem.W.callWith_KW0 (first := [.ref a]) (h₀ := X.base) I.ok.mod.kin hm.kp hall ?_ hpl
  refine thn (hkw.run pos pins s1 σ H1 _ I1 q) ?_
  rintro ws s2 ⟨zs, H2, I2, rz, q2⟩
  refine ⟨I2.kIn, ?_⟩
  rw [hks]
  have r2 : Vals (V.ref a :: zs) (Value.ref a :: ws) := .cons rfl rz
  have hl : ws.length + 1 = ps.length := by
    have h1 := F.len _ _ _ _ q2
    rw [List.length_cons] at h1
    rw [← rz.length]
    exact h1
  refine wpAny_call (codeAny_mono (F.run X.A X.stack s2 H2 ⟨[.ref a], ks.zip ws⟩ (.ref a :: ws) (.ref a :: zs) Q (WE W σ) hr I2.env0 (BindsTo.of_eq (hb _ ws hl)) r2 q2) ?_)
  rintro (e | fl) s' hq
  · exact passAt tks σ pins H2 s2 e s' I2 hq
  · cases fl with
    | ret u => exact I2.after hq
    | next => exact hq.elim
    | brk => exact hq.elim
    | cont => exact hq.elim
/-- C.m(k = v) -/
def tCMethK (C : Addr) (sp : Sp) (E : L2.St → XK) (ta : TE) (tk : TA) : TE := fun σ H Q => ta σ H fun x H1 => x = .ref C ∧ tk σ H1 fun zs H2 => sp (.ref C :: zs) H2 Q (E σ)
theorem pe_cmethK {pl : Sem Bool} {mc : Value} {p g : Addr} (he : PE X o ta) (r : CRead X.K C mc) (c : CMet X.K C mc m p g) (F : FnOk X.prog X.w X.K X.mg X.base (L2.CX X.prog X.w) k g fd ps sp) (hr : Room k X.A) (hb : ∀ (u : Value) (ws : List Value), ws.length + 1 = ps.length → bindArgs fd ⟨[u], ks.zip ws⟩ = pure (ps.zip (u :: ws))) (tks : Takes X W) (hkw : PK X kws tk)
    (hall : (backToKw pos (keywordEach kws X.env)).all (·.1.isSome) = true := by rfl) (hks : (backToKw pos (keywordEach kws X.env)).filterMap (·.1) = ks := by rfl)
    (hpl : ((backTo pos (starEach [] X.env)).any (·.1) || (backToKw pos (keywordEach kws X.env)).any (·.1.isNone)) = false := by rfl)
    (ht : eval (.Call (.Attribute o m apos) [] kws pos) X.env = (do
      let ov ← eval o X.env
      standAt apos.atName
      let (f, first) ← holding [ov] (getMethod ov m pl)
      callWith pos f first (backTo pos (starEach [] X.env)) (backToKw pos (keywordEach kws X.env))) := by rfl) :
    PE X (.Call (.Attribute o m apos) [] kws pos) (tCMethK C sp (WE W) ta tk) := by
  constructor
  intro pins s σ H Q I h
  refine PySem.W.methodCall_KW (pl := pl) (thn (he.run pins s σ H _ I h) ?_) ht
  rintro u s1 ⟨x, H1, I1, rx, rfl, q⟩
  obtain rfl : u = Value.ref C := rx
  refine getmethcm_ok I1 r c fun s2 I2 => ?_
  refine PySem.W.callWith_of (P := PySem.W.MethP X.K s1.heap.objs.size g (.ref C)) hpl (PySem.W.keeps_M c.fi) (evalArgs_kw2_nil hall (thn (hkw.run pos _ s2 σ H1 _ I2 q) ?_))
  rintro ws s3 ⟨zs, H2, I3, rz, q2⟩
  refine ⟨⟨pin_at I3, I3.kIn⟩, ?_⟩
  rw [hks]
  have hl : ws.length + 1 = ps.length := by
    have h1 := F.len _ _ _ _ q2
    rw [List.length_cons] at h1
    rw [← rz.length]
    exact h1
  refine thn (Q := EP X ((s1.heap.objs.size, PySem.W.methodObj (.ref g) (.ref C)) :: pins) σ Q) (wpAny_call (PySem.W.method_call (pin_at I3) (codeAny_mono (F.run X.A X.stack s3 H2 ⟨[.ref C], ks.zip ws⟩ (.ref C :: ws) (.ref C :: zs) Q (WE W σ) hr I3.env0 (BindsTo.of_eq (hb _ ws hl)) (.cons rfl rz) q2) ?_))) fun _ _ y => unpinE y
  rintro (e | fl) s' hq
  · exact passAt tks σ _ H2 s3 e s' I3 hq
  · cases fl with
    | ret u => exact I3.after hq
    | next => exact hq.elim
    | brk => exact hq.elim
    | cont => exact hq.elim
end
/-- what == and isinstance ask of a class -/
structure InsT (K : PySem.W.Frag) (C : Addr) : Prop where
  cl : Cls K C
  ha : PySem.W.findIn K (.ref C) "__class__" = some (some (.builtin "object.__class__"))
  hn : PySem.W.specialIn K (.builtin "object.__class__") "__get__" = some (some (.builtin "getset_descriptor.__get__"))
  htk : PySem.W.takesIn K (.builtin "object.__class__") = some true
  hm : PySem.W.mroIn K C (.type "object") = some true
theorem InsT.ty {K : PySem.W.Frag} {C a dx : Addr} {G : Hp} {fs : List (Str × V)} (T : InsT K C) (h : G a = some (.ins C dx fs)) : TyX K G (.ref a) (.ref C) := .base (.ins h T.cl T.ha T.hn T.htk T.hm)
/-! ### a dict of ints and texts, asked for None -/
section
variable {P : Program} {w : World}
def leafOf : Key → Leaf
  | .inl i => .num i
  | .inr x => .text x
theorem leaf_is {k : Key} {u : Value} (h : keyIs k u = true) : (leafKind P w).is (leafOf k) u = true := by
  rcases keyIs_shape h with ⟨i, t, rfl, rfl⟩ | ⟨x, t, rfl, rfl⟩
  · exact decide_eq_true rfl
  · exact h
theorem leaf_hash (k : Key) : (leafKind P w).hash (leafOf k) = (mixKind P w).hash k := by cases k <;> rfl
theorem leaf_pairs : ∀ {es : List DictEntry} {vs : List (Key × Value)}, Pairs (mixKind P w) es vs → Pairs (leafKind P w) es (vs.map fun q => (leafOf q.1, q.2))
  | _, _, .nil => .nil
  | _, _, .cons h1 h2 t => .cons (leaf_is h1) h2 (leaf_pairs t)
theorem leaf_inj {a b : Key} (h : leafOf a = leafOf b) : a = b := by
  cases a <;> cases b <;> cases h <;> rfl
theorem leaf_dict {h : Heap} {a : Addr} {vs : List (Key × Value)} (d : h.DictOf (mixKind P w) a vs) : h.DictOf (leafKind P w) a (vs.map fun q => (leafOf q.1, q.2)) := by
  obtain ⟨o, es, ep, ho, hx, hd, hk, hp, hn⟩ := d
  refine ⟨o, es, ep, ho, hx, hd, fun e he => ?_, leaf_pairs hp, ?_⟩
  · obtain ⟨k, h1, h2⟩ := hk e he
    exact ⟨leafOf k, leaf_is h1, h2.trans (leaf_hash k).symm⟩
  · rw [List.map_map]
    have : (vs.map ((fun x : Leaf × Value => x.1) ∘ fun q => (leafOf q.1, q.2))) = (vs.map (·.1)).map leafOf := by
      rw [List.map_map]
      rfl
    rw [this]
    exact List.Pairwise.map _ (fun a b ne e => ne (leaf_inj e)) hn
theorem leaf_none (vs : List (Key × Value)) : valueAt (vs.map fun q => (leafOf q.1, q.2)) Leaf.none = none := by
  unfold valueAt
  rw [List.find?_eq_none.mpr fun x hx => ?_]
  · rfl
  · obtain ⟨q, _, rfl⟩ := List.mem_map.mp hx
    obtain ⟨k, v⟩ := q
    cases k <;> simp [leafOf]
end
section
variable {X : Cx} {pins : List (Addr × Obj)} {σ : L2.St} {H : Hp} {s : Shared} {a : Addr} {kvs : List (Key × V)} {r : Value} {A : Around} {E : Value → Shared → Prop}
theorem d_getNone {Q : Value → Shared → Prop} (I : Inv X pins σ H s) (e : Rd H a (.dK kvs)) (h : ∀ s', Inv X pins σ H s' → Q r s') : wpAny (model X.prog X.w) A (call (.builtin "dict.get") [.ref a, .none, r]) Q E s := by
  obtain ⟨z, hd, vs, rel, dd⟩ := dk_rd I.hok e
  refine call_meetsIn PySem.F.slot_dict_get dd.typeIs PySem.F.entry_dict_get (PySem.F.args_dict_get_3 _ _ _) (meets_dict_get_default (leafKind X.prog X.w) a (k := Leaf.none) (key := .none) rfl hd r) ⟨_, (leaf_dict dd).mapOf, ?_⟩
  rw [leaf_none]
  exact h _ (I.tok _)
end
/-- d.get(x, z), x a text or an int or None -/
def tDGet2N (td ty tx : TE) : TE := fun σ H Q => td σ H fun x H1 => ∃ a, x = .ref a ∧ IsD H1 a ∧ ty σ H1 fun y H2 => tx σ H2 fun z H3 => (y = .non ∧ (∃ kvs, Rd H3 a (.dK kvs)) ∧ Q z H3) ∨ ∃ o, DGet H3 a y o ∧ Q (o.getD z) H3
section
variable {X : Cx} {o e f : Expr} {apos cpos : Pos} {td ty tx : TE}
theorem pe_dget2N (hu : X.A.units + 1 < cLine) (ho : PE X o td) (he : PE X e ty) (hf : PE X f tx) (m : M2 X o "get" apos e f cpos) : PE X (.Call (.Attribute o "get" apos) [e, f] [] cpos) (tDGet2N td ty tx) := by
  refine ⟨fun pins s σ H Q I h => ?_⟩
  refine wpAny_Call_method m.base m.few m.line PySem.F.plainAttrs_dict PySem.F.slot_dict_get PySem.F.type_dict_get (thn (ho.run pins s σ H _ I h) fun u s1 ⟨x, H1, I1, rx, a, ex, d, q1⟩ => ?_)
  subst ex
  obtain rfl : u = Value.ref a := rx
  obtain ⟨t1, t2, _⟩ := isD_at I1 d
  refine ⟨t1, t2, ?_⟩
  rw [m.trees]
  refine Calls.callWith_builtin rfl (Calls.evalArgs_plain (Calls.spliced_cons (thn (he.run pins s1 σ H1 _ I1 q1) fun iv s2 ⟨y, H2, I2, ry, q2⟩ =>
    Calls.spliced_cons (thn (hf.run pins s2 σ H2 _ I2 q2) fun fv s3 ⟨z, H3, I3, rz, q3⟩ => Calls.spliced_nil ?_))))
  rcases q3 with ⟨ey, ⟨kvs, e⟩, q3⟩ | ⟨ov, g, q3⟩
  · subst ey
    cases (show iv = Value.none from ry)
    exact d_getNone I3 e fun s4 I4 => ⟨_, H3, I4, rz, q3⟩
  · exact d_get2 hu I3 g ry rz fun w' s4 I4 rw' => ⟨_, H3, I4, rw', q3⟩
/-- dict(d) -/
def nDictOf : List V → Hp → VK → Prop := fun vs G Q => ∃ a kvs, vs = [.ref a] ∧ G a = some (.dK kvs) ∧ ∀ p G', G p = none → Same G G' → G' p = some (.dK kvs) → Q (.ref p) G'
theorem cn_dictOf : CallR X (.type "dict") nDictOf := by
  intro pins s σ H xs us Q I r h
  obtain ⟨a, kvs, rfl, ha, q⟩ := h
  obtain ⟨u, rfl, ru⟩ := vals1 r
  cases ru
  exact d_copyOf I (.inl ha) fun p s' hp I' => ⟨.ref p, _, I', rfl, q p _ hp (Same.new hp) upd_same⟩
end
/-! ### repr of a dict of texts -/
def kvS (p : Str × Str) : Key × V := (.inr p.1, .str p.2)
def dictT (ps : List (Str × Str)) : PyData := .dict (ps.map fun p => (.str p.1, .str p.2))
def okT (p : Str × Str) : Prop := txt p.1 = true ∧ txt p.2 = true ∧ p.1.length ≤ 10 ∧ p.2.length ≤ 10
theorem txt_all {x : Str} (h : txt x = true) : (x.cps.toList.all fun c => decide (c < 16 ^ 8)) = true := by
  unfold txt at h
  rw [← Array.all_toList, List.all_eq_true] at h
  rw [List.all_eq_true]
  intro c hc
  have := h c hc
  simp at this
  exact decide_eq_true (by omega)
theorem dictT_len {ps : List (Str × Str)} (h : ∀ p ∈ ps, okT p) (hl : ps.length ≤ 1000) : (dictT ps).shown.length ≤ 300000 := by
  have key : ∀ ps : List (Str × Str), (∀ p ∈ ps, okT p) → PyData.leavesShortKv 8 (ps.map fun p => (PyData.str p.1, PyData.str p.2)) = true ∧ PyData.weightKv (ps.map fun p => (PyData.str p.1, PyData.str p.2)) ≤ 22 * ps.length := by
    intro ps
    induction ps with
    | nil => exact fun _ => ⟨rfl, Nat.zero_le _⟩
    | cons p r ih =>
      intro h
      obtain ⟨i1, i2⟩ := ih fun q hq => h q (List.mem_cons_of_mem _ hq)
      obtain ⟨t1, t2, l1, l2⟩ := h p List.mem_cons_self
      constructor
      · show (PyData.leavesShort 8 (.str p.1) && PyData.leavesShort 8 (.str p.2) && PyData.leavesShortKv 8 (r.map _)) = true
        rw [i1]
        show ((p.1.cps.toList.all fun c => decide (c < 16 ^ 8)) && (p.2.cps.toList.all fun c => decide (c < 16 ^ 8)) && true) = true
        rw [txt_all t1, txt_all t2]
        rfl
      · show p.1.cps.size + p.2.cps.size + 2 + PyData.weightKv (r.map _) ≤ 22 * (r.length + 1)
        have l1 : p.1.cps.size ≤ 10 := l1
        have l2 : p.2.cps.size ≤ 10 := l2
        omega
  obtain ⟨h1, h2⟩ := key ps h
  have := PyData.shown_le 8 (by decide) (dictT ps) h1
  have e : (dictT ps).weight = PyData.weightKv (ps.map fun p => (PyData.str p.1, PyData.str p.2)) := rfl
  rw [e] at this
  omega
section
variable {X : Cx} {pins : List (Addr × Obj)} {σ : L2.St} {G : Hp} {s : Shared}
theorem dictT_show (ps : List (Str × Str)) : (dictT ps).showable = true := by
  show PyData.showableKv _ = true
  induction ps with
  | nil => rfl
  | cons p r ih =>
    show (true && true && PyData.showableKv (r.map _)) = true
    rw [ih]
    rfl
theorem dictT_reads {a : Addr} {ps : List (Str × Str)} (I : Inv X pins σ G s) (h : G a = some (.dK (ps.map kvS))) : ∃ as, Reads s.heap (.ref a) (dictT ps) as ∧ sysModules ∉ as := by
  obtain ⟨z, hsm, vs, kv, o, es, ep, ho, ex, hd, ko, pr, nd⟩ := I.hok a _ h
  have hna : a ≠ sysModules := fun e => by
    rw [e] at hsm
    exact absurd hsm (by decide)
  have rd : ∀ (ps : List (Str × Str)) (vs : List (Key × Value)) (l : List DictEntry), KV (ps.map kvS) vs → Pairs (mixKind X.prog X.w) l vs → ReadsAll s.heap (l.map (·.key)) ((ps.map fun p => (PyData.str p.1, PyData.str p.2)).map (·.1)) [] ∧ ReadsAll s.heap (l.map (·.val)) ((ps.map fun p => (PyData.str p.1, PyData.str p.2)).map (·.2)) [] := by
    intro ps
    induction ps with
    | nil =>
      intro vs l kv pr
      cases kv
      cases pr
      exact ⟨.nil, .nil⟩
    | cons p r ih =>
      intro vs l kv pr
      cases kv with
      | @cons _ q _ qs h1 h2 =>
        cases pr with
        | @cons e _ es' _ p1 p2 p3 =>
          obtain ⟨i1, i2⟩ := ih qs es' h2 p3
          obtain ⟨e1, t, e2⟩ := h1
          have e1 : Sum.inr p.1 = q.1 := e1
          have e2 : q.2 = Value.str p.2 t := e2
          rw [← e1] at p1
          have p1 : keyIs (Sum.inr p.1) e.key = true := p1
          rcases keyIs_shape p1 with ⟨_, _, z1, _⟩ | ⟨x, t2, z1, z2⟩
          · cases z1
          · cases z1
            constructor
            · show ReadsAll s.heap (e.key :: es'.map (·.key)) (.str p.1 :: _) ([] ++ [])
              rw [z2]
              exact .cons (.str p.1 t2) i1
            · show ReadsAll s.heap (e.val :: es'.map (·.val)) (.str p.2 :: _) ([] ++ [])
              rw [p2, e2]
              exact .cons (.str p.2 t) i2
  obtain ⟨r1, r2⟩ := rd ps vs es.toList kv pr
  refine ⟨_, .dict ho ex.1 hd r1 r2, fun hm => ?_⟩
  simp at hm
  exact hna hm.symm
end
def rReprD : List V → Hp → VK → Prop := fun xs G Q => ∃ (a : Addr) (ps : List (Str × Str)), xs = [.ref a] ∧ G a = some (.dK (ps.map kvS)) ∧ (∀ p ∈ ps, okT p) ∧ ps.length ≤ 1000 ∧ Q (.str (dictT ps).shown) G
theorem call_reprD {X : Cx} (gu : X.A.guards = some []) (hu : X.A.units + 64 < cLine) : CallR X (.builtin "repr") rReprD := by
  rintro pins s σ G xs us Q I r ⟨a, ps, rfl, ha, hp, hl, q⟩
  obtain ⟨u, rfl, ru⟩ := vals1 r
  obtain rfl : u = Value.ref a := ru
  obtain ⟨as, rd, ns⟩ := dictT_reads I ha
  have hz := dictT_len hp hl
  refine repr_of_reads' rd (dictT_show ps) (fun _ => ns) gu ?_ (fun _ _ z => z) (fun h' u tk k => ⟨.str (dictT ps).shown, G, I.kept k, ⟨u, rfl⟩, q⟩) (by rw [sizeLine_eq]; omega)
  have : (dictT ps).depth ≤ 1 := by
    have : ∀ ps : List (Str × Str), PyData.depthKv (ps.map fun p => (PyData.str p.1, PyData.str p.2)) = 0 := by
      intro ps
      induction ps with
      | nil => rfl
      | cons p r ih =>
        show max (max 0 0) (PyData.depthKv (r.map _)) = 0
        rw [ih]
        rfl
    show PyData.depthKv _ + 1 ≤ 1
    rw [this]
    decide
  omega
end Qmk
set_option Elab.async false
set_option linter.all false
set_option maxRecDepth 100000
set_option maxHeartbeats 4000000
namespace K04
open PySem PySem.Spec PyProof.Rows L2 TL Qh Qi Ql ClX Qst Qkw Qmd Qmk K04.Sw
abbrev sPool : Stmt := top 17
abbrev sPairs : Stmt := top 18
abbrev sHeard : Stmt := top 19
def poolS : List Str := [Str.ofString "self", Str.ofString "cls", Str.ofString "in", Str.ofString "pairs", Str.ofString "of", Str.ofString "mice", Str.ofString "mouse", Str.ofString "a", Str.ofString "b", Str.ofString "zzzzzzzzzz", Str.ofString "none", Str.ofString "not", Str.ofString "swap", Str.ofString "value", Str.ofString "c", Str.ofString "d"]
theorem pool_txt : ∀ y ∈ poolS, txt y = true ∧ y.length ≤ 10 ∧ wordS y = true := by
  have h : poolS.all (fun y => txt y && (decide (y.length ≤ 10) && wordS y)) = true := by decide +kernel
  intro y hy
  have := List.all_eq_true.mp h y hy
  obtain ⟨a, b⟩ := Bool.and_eq_true_iff.mp this
  obtain ⟨b, c⟩ := Bool.and_eq_true_iff.mp b
  exact ⟨a, of_decide_eq_true b, c⟩
theorem pool_nd : poolS.Nodup := by decide +kernel
def spPool : Sp := fun vs G Q _ => vs = [] ∧ ∀ q G', G q = none → Same G G' → G' q = some (.lst (poolS.map V.str)) → Q (.ref q) G'
/-- n pairs of the pool's words -/
structure Box (n : Nat) (ps : List (Str × Str)) : Prop where
  len : ps.length = n
  mem : ∀ p ∈ ps, p.1 ∈ poolS ∧ p.2 ∈ poolS
  nd : (ps.map (·.1)).Nodup
theorem Box.ok {n : Nat} {ps : List (Str × Str)} (b : Box n ps) : ∀ p ∈ ps, okT p := fun p hp => by
  obtain ⟨h1, h2⟩ := b.mem p hp
  exact ⟨(pool_txt _ h1).1, (pool_txt _ h2).1, (pool_txt _ h1).2.1, (pool_txt _ h2).2.1⟩
def spPairs : Sp := fun vs G Q _ => ∃ (p l : Addr) (c : Int) (m : Nat), vs = [.ref p, .int m] ∧ Pen G p l c ∧ c ≤ 800000 ∧ m ≤ 11 ∧ ∀ D ps G', G D = none → Box m ps → Kp p G G' → Pen G' p l (c + 22) → G' D = some (.dK (ps.map kvS)) → Q (.ref D) G'
theorem valV_none {ps : List (Str × Str)} {y : Str} (h : y ∉ ps.map (·.1)) : valV (ps.map kvS) (.inr y : Key) = none := by
  cases e : valV (ps.map kvS) (.inr y : Key) with
  | none => rfl
  | some v =>
    obtain ⟨q, hq, e2⟩ := List.mem_map.mp (valV_in e)
    obtain ⟨z, hz, rfl⟩ := List.mem_map.mp hq
    have e2 : (Sum.inr z.1 : Key) = .inr y := e2
    exact absurd (List.mem_map.mpr ⟨z, hz, Sum.inr.inj e2⟩) h
theorem valV_some : ∀ {ps : List (Str × Str)}, (ps.map (·.1)).Nodup → ∀ p ∈ ps, valV (ps.map kvS) (.inr p.1 : Key) = some (.str p.2)
  | [], _, p, hp => nomatch hp
  | q :: ps, h, p, hp => by
    obtain ⟨n1, n2⟩ := List.nodup_cons.mp h
    unfold valV
    rw [List.map_cons, List.find?_cons]
    by_cases e : q.1 = p.1
    · have e2 : decide ((kvS q).1 = (Sum.inr p.1 : Key)) = true := decide_eq_true (congrArg Sum.inr e)
      rw [e2]
      rcases List.mem_cons.mp hp with rfl | hp
      · rfl
      · exact absurd (show q.1 ∈ ps.map (·.1) by rw [e]; exact List.mem_map_of_mem hp) n1
    · have e2 : decide ((kvS q).1 = (Sum.inr p.1 : Key)) = false := decide_eq_false fun z => e (Sum.inr.inj z)
      rw [e2]
      rcases List.mem_cons.mp hp with rfl | hp
      · exact absurd rfl e
      · exact valV_some n2 p hp
section
variable {P : Program} {w : World} {K : PySem.W.Frag} {mg : Str → Option Value} {base : Heap}
theorem scPool : FnScope ["_law_few"] [] (defScope sPool) := ⟨rfl, rfl, rfl, by decide +kernel, rfl, by decide +kernel, by decide +kernel⟩
theorem ok_pool (D : DefIn K mg "_law_pool" sPool) : Ok P w K mg base "_law_pool" (defArgs sPool) [] 1 spPool := by
  refine D.ok scPool (fun vs G Q E h => ?_) (fun _ _ _ _ _ _ us hl => match us, hl with | [], _ => rfl) (fun f cdv A out t G vs Q E hr h => ?_)
  · obtain ⟨rfl, _⟩ := h
    rfl
  · obtain ⟨rfl, k⟩ := h
    refine ⟨_, (pss_cons (ps_set (i := 0) scPool.nd rfl (by first | exact Or.inl rfl | exact Or.inr rfl) (pn_lst (pa_cons pe_str (pa_cons pe_str (pa_cons pe_str (pa_cons pe_str (pa_cons pe_str (pa_cons pe_str (pa_cons pe_str (pa_cons pe_str (pa_cons pe_str (pa_cons pe_str (pa_cons pe_str (pa_cons pe_str (pa_cons pe_str (pa_cons pe_str pa_nil))))))))))))))))
    (pss_one (ps_ret (pe_op on_cat (pv 0) (pn_lst (pa_cons pe_str (pa_cons pe_str pa_nil))))))), ?_⟩
    refine ⟨by show 14 ≤ sizeLine; decide, fun L G1 n1 s1 e1 => ⟨_, rfl, by show 2 ≤ sizeLine; decide, fun L2 G2 n2 s2 e2 => ?_⟩⟩
    refine ⟨L, L2, _, _, rfl, rfl, s2 _ _ e1, e2, by show 16 ≤ sizeLine; decide, fun p G3 n3 s3 e3 => ?_⟩
    exact k p G3 (s1.free (s2.free n3)) ((s1.trans s2).trans s3) e3
abbrev pairsN : List Str := ["_law_pen_here", "_law_many", "_law_left", "_law_made", "_law_turn", "_law_one"]
theorem scPairs : FnScope pairsN ["_law_pen_here", "_law_many"] (defScope sPairs) := ⟨rfl, rfl, rfl, by decide +kernel, rfl, by decide +kernel, by decide +kernel⟩
theorem ix_at {n : Nat} {d : Int} (h0 : 0 ≤ d) (h1 : d < n) : seqIndex? d n = some d.toNat := by
  unfold seqIndex?
  rw [if_neg (show ¬ d < 0 by omega)]
  have : (decide (0 ≤ d) && decide (d < (n : Int))) = true := by rw [decide_eq_true h0, decide_eq_true h1]; rfl
  show (if (decide (0 ≤ d) && decide (d < (n : Int))) = true then some d.toNat else none) = some d.toNat
  rw [if_pos this]
theorem map_erase {α β : Type} (f : α → β) : ∀ (l : List α) (i : Nat), (l.map f).eraseIdx i = (l.eraseIdx i).map f
  | [], _ => rfl
  | _ :: _, 0 => rfl
  | a :: l, i + 1 => by
    show f a :: (l.map f).eraseIdx i = f a :: (l.eraseIdx i).map f
    rw [map_erase f l i]
theorem perm_erase {α : Type} : ∀ {l : List α} {i : Nat} {x : α}, l[i]? = some x → l.Perm (x :: l.eraseIdx i)
  | a :: l, 0, x, h => by
    cases h
    exact .refl _
  | a :: l, i + 1, x, h => ((perm_erase (l := l) (i := i) h).cons a).trans (.swap x a _)
theorem ok_pairs (D : DefIn K mg "_law_pairs" sPairs) (B : Blt mg) (F__law_draw : Ok P w K mg base "_law_draw" (defArgs sDraw) ["_law_pen_here", "_law_many"] 1 spDraw) (F__law_pick : Ok P w K mg base "_law_pick" (defArgs sPick) ["_law_pen_here", "_law_some"] 2 (spPick K))
    (F__law_pool : Ok P w K mg base "_law_pool" (defArgs sPool) [] 1 spPool) : Ok P w K mg base "_law_pairs" (defArgs sPairs) ["_law_pen_here", "_law_many"] 3 spPairs := by
  refine D.ok scPairs (fun vs G Q E h => ?_) (fun _ _ _ _ _ _ us hl => match us, hl with | [_, _], _ => rfl) (fun f cdv A out t G vs Q E hr h => ?_)
  · obtain ⟨p, l, c, m, rfl, _⟩ := h
    rfl
  · obtain ⟨p, l, c, m, rfl, P0, hc, hm, k⟩ := h
    have hu1 : (A.deeper (envOfC (Str.ofString "_law_pairs") (defScope sPairs) t.heap.objs.size f cdv)).units + 1 < cLine := Nat.lt_of_le_of_lt (by omega) hr.un
    refine ⟨_, (pss_cons (ps_par (i := 2) (j := 3) rfl scPairs.nd rfl rfl (by decide) rfl rfl (pa_cons (pe_own0 F__law_pool (hr.mono (by decide))) (pa_cons pn_dict pa_nil)) rfl)
    (pss_cons (ps_for (passes_of rfl) rfl (pi_range1 (by rfl) B.n_range (pa_cons (pv 1) pa_nil)) (pg_name (i := 4) scPairs.nd rfl (by first | exact Or.inl rfl | exact Or.inr rfl))
      (pss_cons (ps_set (i := 5) scPairs.nd rfl (by first | exact Or.inl rfl | exact Or.inr rfl) (pe_bm PySem.F.plainAttrs_list PySem.F.slot_list_pop PySem.F.type_list_pop mt_popAt (pv 2) (pa_cons (pe_own F__law_draw (hr.mono (by decide)) takes0 (pa_cons (pv 0) (pa_cons (pe_callB (r := rLen K) call_len (by rfl) B.n_len bt_len (pa_cons (pv 2) pa_nil)) pa_nil))) pa_nil)))
    (pss_one (ps_dput hu1 (pv 3) (pv 5) (pe_own F__law_pick (hr.mono (by decide)) takes0 (pa_cons (pv 0) (pa_cons (pe_op on_cat (pe_own0 F__law_pool (hr.mono (by decide))) (pn_lst (pa_cons (pv 5) pa_nil))) pa_nil))) (by rfl)))))
    (pss_one (ps_ret (pv 3))))), ?_⟩
    refine ⟨rfl, fun L G1 n1 s1 e1 D G2 n2 s2 e2 => ⟨_, _, rfl, ?_⟩⟩
    have P3 := (P0.same s1).same s2
    have Lp := P0.ne n1
    have Ll := P0.nel n1
    have Dp := (P0.same s1).ne n2
    have Dl := (P0.same s1).nel n2
    have DL : D ≠ L := (ne_of_none e1 n2).symm
    have S3 : Same G G2 := s1.trans s2
    refine ⟨_, rfl, m, rfl, by omega, by omega, ?_⟩
    rw [show ((m : Int)).toNat = m by omega]
    refine for_range (fun i σ' G' => ∃ (o4 o5 : Option V) (left : List Str) (ps : List (Str × Str)), σ' = [some (.ref p), some (.int m), some (.ref L), some (.ref D), o4, o5] ∧ G' L = some (.lst (left.map V.str)) ∧ G' D = some (.dK (ps.map kvS)) ∧ ps.length = i ∧ (ps.map (·.1) ++ left).Perm poolS ∧
      (∀ q ∈ ps, q.2 ∈ poolS) ∧ Kp p G G' ∧ Pen G' p l (c + 2 * i)) ⟨none, none, poolS, [], rfl, s2 _ _ e1, e2, rfl, .refl _, fun q h => (nomatch h), Kp.same S3, P3.mono (by omega)⟩ ?_ ?_
    · rintro i σ1 G4 hi ⟨o4, o5, left, ps, rfl, hL, hD, hn, hperm, hv, kp4, P4⟩
      have hlen : ps.length + left.length = 16 := by
        have := hperm.length_eq
        rw [List.length_append, List.length_map] at this
        exact this
      have i11 : i < 11 := by omega
      refine ⟨_, rfl, .inl ⟨rfl, _, SqL.of hL⟩, _, rfl, _, rfl, .ref L, left.length, rfl, .inl ⟨_, SqL.of hL, by rw [List.length_map]⟩, p, l, _, _, rfl, P4, by omega, by omega, by omega, fun d G5 d0 d1 kp5 P5 => ?_⟩
      have dl : d.toNat < left.length := by omega
      obtain ⟨y, hy⟩ : ∃ y, left[d.toNat]? = some y := ⟨_, List.getElem?_eq_getElem dl⟩
      have hL5 := kp5 L _ Lp hL
      have hD5 := kp5 D _ Dp hD
      refine ⟨L, _, d, d.toNat, .str y, rfl, rfl, hL5, by omega, by omega, by rw [List.length_map]; exact ix_at d0 d1, by rw [List.getElem?_map, hy]; rfl, ?_⟩
      have P6 : Pen (L2.upd G5 L (.lst ((left.map V.str).eraseIdx d.toNat))) p l (c + 2 * i + 1) := P5.upd Lp Ll
      have hD6 : (L2.upd G5 L (.lst ((left.map V.str).eraseIdx d.toNat))) D = some (.dK (ps.map kvS)) := by
        rw [upd_ne DL]
        exact hD5
      have hL6 : (L2.upd G5 L (.lst ((left.map V.str).eraseIdx d.toNat))) L = some (.lst ((left.eraseIdx d.toNat).map V.str)) := by
        rw [upd_same, map_erase]
      have kp6 : Kp p G (L2.upd G5 L (.lst ((left.map V.str).eraseIdx d.toNat))) := (kp4.trans kp5).fresh n1
      generalize L2.upd G5 L (.lst ((left.map V.str).eraseIdx d.toNat)) = G6 at P6 hD6 hL6 kp6
      have pe := perm_erase hy
      have perm2 : ((ps.map (·.1) ++ [y]) ++ left.eraseIdx d.toNat).Perm poolS := by
        rw [List.append_assoc]
        exact (List.Perm.append_left _ pe.symm).trans hperm
      have nd2 := (List.Perm.nodup_iff perm2).mpr pool_nd
      have yin : y ∈ poolS := perm2.mem_iff.mp (by simp)
      have yout : y ∉ ps.map (·.1) := fun z => by
        have := (List.nodup_append.mp (List.nodup_append.mp nd2).1).2.2 y z y (by simp)
        exact this rfl
      refine ⟨_, rfl, rfl, fun q G7 n7 s7 e7 => ⟨_, rfl, by show 1 ≤ sizeLine; decide, fun q2 G8 n8 s8 e8 => ?_⟩⟩
      refine ⟨q, q2, _, _, rfl, rfl, s8 _ _ e7, e8, by show 17 ≤ sizeLine; decide, fun q3 G9 n9 s9 e9 => ?_⟩
      have S9 := (s7.trans s8).trans s9
      have P9 := P6.same S9
      refine ⟨p, l, q3, _, _, rfl, P9, by omega, P6.ne (s7.free (s8.free n9)), SqL.of e9, by show 0 < 17; decide, by show 17 ≤ 1000000; decide, fun x G10 hx kp10 P10 => ?_⟩
      obtain ⟨z, hz, rfl⟩ : ∃ z, z ∈ poolS ∧ x = .str z := by
        rcases List.mem_append.mp hx with hx | hx
        · obtain ⟨z, hz, rfl⟩ := List.mem_map.mp hx
          exact ⟨z, hz, rfl⟩
        · rw [List.mem_singleton.mp hx]
          exact ⟨y, yin, rfl⟩
      have hD10 := kp10 D _ Dp (S9 _ _ hD6)
      have hL10 := kp10 L _ Lp (S9 _ _ hL6)
      refine ⟨_, rfl, _, rfl, D, _, rfl, .inl ⟨_, .inr y, hD10, rfl, by rw [List.length_map, hn]; exact big_line' (by omega), rfl⟩, ?_⟩
      rw [putK_new _ (valV_none yout)]
      refine ⟨_, _, left.eraseIdx d.toNat, ps ++ [(y, z)], rfl, by rw [upd_ne DL.symm]; exact hL10, by rw [upd_same, List.map_append]; rfl, by simp [hn], by rw [List.map_append]; exact perm2, fun q hq => ?_, ((kp6.trans (Kp.same S9)).trans kp10).fresh (s1.free n2), (P10.upd Dp Dl).mono (by omega)⟩
      rcases List.mem_append.mp hq with hq | hq
      · exact hv q hq
      · rw [List.mem_singleton.mp hq]
        exact hz
    · rintro σ1 G5 ⟨o4, o5, left, ps, rfl, hL, hD, hn, hperm, hv, kp, P5⟩
      refine ⟨_, rfl, k D ps G5 (s1.free n2) ⟨hn, fun q hq => ⟨hperm.mem_iff.mp (List.mem_append_left _ (List.mem_map_of_mem hq)), hv q hq⟩, ?_⟩ kp (P5.mono (by omega)) hD⟩
      exact (List.nodup_append.mp ((List.Perm.nodup_iff hperm).mpr pool_nd)).1
end
end K04
set_option Elab.async false
set_option linter.all false
set_option maxRecDepth 100000
set_option maxHeartbeats 8000000
namespace K04
open PySem PySem.Spec PyProof.Rows L2 TL Qh Qi Ql ClX Qst Qkw Qmd Qmk K04.Sw
abbrev sSpoilt : Stmt := top 21
/-- a key or a value of such a dict -/
def ItK (G : Hp) (v : V) : Prop := (∃ x, v = .str x ∧ x.length ≤ 1000) ∨ v = .non ∨ (∃ b, v = .bl b) ∨ (∃ i, v = .int i) ∨ ∃ t xs, v = .ref t ∧ G t = some (.tup xs)
theorem ItK.same {G G' : Hp} {v : V} (s : ∀ t xs, G t = some (.tup xs) → G' t = some (.tup xs)) (h : ItK G v) : ItK G' v := by
  rcases h with h | h | h | h | ⟨t, xs, e, h⟩
  · exact .inl h
  · exact .inr (.inl h)
  · exact .inr (.inr (.inl h))
  · exact .inr (.inr (.inr (.inl h)))
  · exact .inr (.inr (.inr (.inr ⟨t, xs, e, s _ _ h⟩)))
theorem ItK.known {K : PySem.W.Frag} {G : Hp} {v : V} (h : ItK G v) : Known K G v := by
  rcases h with ⟨x, e, h1⟩ | rfl | ⟨b, rfl⟩ | ⟨i, rfl⟩ | ⟨t, xs, rfl, h⟩
  · exact .inl ⟨x, e, by omega⟩
  · exact .inr ⟨(fun x e => nomatch e), _, .base .non, kit_ty (by decide +kernel)⟩
  · exact .inr ⟨(fun x e => nomatch e), _, .base (.bl b), kit_ty (by decide +kernel)⟩
  · exact .inr ⟨(fun x e => nomatch e), _, .base (.int i), kit_ty (by decide +kernel)⟩
  · exact .inr ⟨(fun x e => nomatch e), _, .base (.tup h), kit_ty (by decide +kernel)⟩
theorem _root_.Qmd.KeyV.same {G G' : Hp} {k : NestedKey} {v : V} (s : ∀ t xs, G t = some (.tup xs) → G' t = some (.tup xs)) (h : KeyV G k v) : KeyV G' k v := by
  cases h with
  | non => exact .non
  | bl b => exact .bl b
  | int i => exact .int i
  | str x => exact .str x
  | tup e => exact .tup (s _ _ e)
theorem kp_tups {a : Addr} {G G' : Hp} {o : HO} (ha : G a = some o) (no : ∀ xs, o ≠ .tup xs) (k : Kp a G G') : ∀ t xs, G t = some (.tup xs) → G' t = some (.tup xs) := fun t xs h => k t _ (fun e => by
  rw [e, ha] at h
  exact no xs (Option.some.inj h)) h
/-- what is no word of the pool, as a key -/
structure Odd (G : Hp) (k : NestedKey) (v : V) : Prop where
  key : KeyV G k v
  it : ItK G v
  no : wordV v = false
  out : ∀ y ∈ poolS, k ≠ .text y
abbrev spoN : List Str := ["_law_pen_here", "_law_box", "_law_odd", "_law_made", "_law_left", "_law_at", "_law_is_key", "_law_k", "_law_one", "_law_key"]
def badE (e : En) : Bool := !(wordV e.2.1 && wordV e.2.2)
def spSpoilt (w : World) : Sp := fun vs G Q _ => ∃ (p l D : Addr) (c : Int) (n : Nat) (ps : List (Str × Str)), vs = [.ref p, .ref D] ∧ Pen G p l c ∧ c ≤ 800000 ∧ D ≠ p ∧ G D = some (.dK (ps.map kvS)) ∧ Box n ps ∧ 1 ≤ n ∧ n ≤ 11 ∧
  ∀ (a : Addr) (es : List En) G', G a = none → es.length = n → (∃ e ∈ es, badE e = true) → (∀ e ∈ es, ItK G' e.2.1 ∧ ItK G' e.2.2) → Kp p G G' → Pen G' p l (c + 3) → G' a = some (dM w a es) → Q (.ref a) G'
section
variable {P : Program} {w : World} {K : PySem.W.Frag} {mg : Str → Option Value} {base : Heap}
theorem scSpoilt : FnScope spoN ["_law_pen_here", "_law_box"] (defScope sSpoilt) := ⟨rfl, rfl, rfl, by decide +kernel, rfl, by decide +kernel, by decide +kernel⟩
theorem ok_spoilt (D : DefIn K mg "_law_spoilt" sSpoilt) (B : Blt mg) (F__law_draw : Ok P w K mg base "_law_draw" (defArgs sDraw) ["_law_pen_here", "_law_many"] 1 spDraw)
    (F__law_pick : Ok P w K mg base "_law_pick" (defArgs sPick) ["_law_pen_here", "_law_some"] 2 (spPick K)) :
    Ok P w K mg base "_law_spoilt" (defArgs sSpoilt) ["_law_pen_here", "_law_box"] 3 (spSpoilt w) := by
  refine D.ok scSpoilt (fun vs G Q E h => ?_) (fun _ _ _ _ _ _ us hl => match us, hl with | [_, _], _ => rfl) (fun f cdv A out t G vs Q E hr h => ?_)
  · obtain ⟨p, l, D, c, n, ps, rfl, _⟩ := h
    rfl
  · obtain ⟨p, l, D, c, n, ps, rfl, P0, hc, Dp, hD, bx, n1, n11, k⟩ := h
    have hu1 : (A.deeper (envOfC (Str.ofString "_law_spoilt") (defScope sSpoilt) t.heap.objs.size f cdv)).units + 1 < cLine := Nat.lt_of_le_of_lt (by omega) hr.un
    have hu9 : (A.deeper (envOfC (Str.ofString "_law_spoilt") (defScope sSpoilt) t.heap.objs.size f cdv)).units + 9 < cLine := Nat.lt_of_le_of_lt (by omega) hr.un
    refine ⟨_, (pss_cons (ps_set (i := 2) scSpoilt.nd rfl (by first | exact Or.inl rfl | exact Or.inr rfl) (pe_own F__law_pick (hr.mono (by decide)) takes0 (pa_cons (pv 0) (pa_cons (pn_lst (pa_cons pe_str (pa_cons pe_str (pa_cons pe_non (pa_cons pe_int (pa_cons pe_bl (pa_cons (pn_tup (pa_cons pe_str pa_nil)) (pa_cons pe_str (pa_cons pe_str (pa_cons pe_str (pa_cons (pe_un un_neg pe_int) pa_nil))))))))))) pa_nil))))
    (pss_cons (ps_par (i := 3) (j := 4) rfl scSpoilt.nd rfl rfl (by decide) rfl rfl (pa_cons (pe_mnewW (w := w) rfl) (pa_cons (pe_callTy (call_listD rfl) (by rfl) B.n_list bt_list (pa_cons (pv 1) pa_nil)) pa_nil)) rfl)
    (pss_cons (ps_par (i := 5) (j := 6) rfl scSpoilt.nd rfl rfl (by decide) rfl rfl (pa_cons (pe_own F__law_draw (hr.mono (by decide)) takes0 (pa_cons (pv 0) (pa_cons (pe_callB (r := rLen K) call_len (by rfl) B.n_len bt_len (pa_cons (pv 4) pa_nil)) pa_nil))) (pa_cons (pe_cmpR op_eq (pe_own F__law_draw (hr.mono (by decide)) takes0 (pa_cons (pv 0) (pa_cons pe_int pa_nil))) pe_int (nomark _)) pa_nil)) rfl)
    (pss_cons (ps_for (passes_of rfl) rfl (pi_enum (by rfl) B.n_enumerate (pa_cons (pv 4) pa_nil)) (pg_tup rfl (pgs_cons (pg_name (i := 7) scSpoilt.nd rfl (by first | exact Or.inl rfl | exact Or.inr rfl)) (pgs_cons (pg_name (i := 8) scSpoilt.nd rfl (by first | exact Or.inl rfl | exact Or.inr rfl)) pgs_nil)))
      (pss_cons (ps_set (i := 9) scSpoilt.nd rfl (by first | exact Or.inl rfl | exact Or.inr rfl) (pe_ifExp (PW.pt (pw_and (pt_cmpR op_eq (pv 7) (pv 5) (nomark _)) (pw_and1 (pt_val (pv 6))))) (pv 2) (pv 8)))
    (pss_one (ps_mputW (w := w) rfl hu9 (pv 3) (pv 9) (pe_ifExp (PW.pt (pw_and (pt_cmpR op_eq (pv 7) (pv 5) (nomark _)) (pw_and1 (pt_not (pt_val (pv 6)))))) (pv 2) (pe_dget hu1 (pv 1) (pv 8) (fun _ _ => rfl))) (by rfl)))))
    (pss_one (ps_ret (pv 3))))))), ?_⟩
    refine ⟨_, rfl, by show 1 ≤ sizeLine; decide, fun t1 G1 u1 v1 w1 => ?_⟩
    refine ⟨1, rfl, by show 10 ≤ sizeLine; decide, fun m1 G2 u2 v2 w2 => ?_⟩
    have P2 := (P0.same v1).same v2
    refine ⟨p, l, m1, _, _, rfl, P2, by omega, (P0.same v1).ne u2, SqL.of w2, by show 0 < 10; decide, by show 10 ≤ 1000000; decide, fun vo G3 hv kp3 P3 => ?_⟩
    have ht1 : G3 t1 = some (.tup [.str (Str.ofString "a")]) := kp3 _ _ (P0.ne u1) (v2 _ _ w1)
    obtain ⟨ko, odd⟩ : ∃ ko, Odd G3 ko vo := by
      have oS : ∀ x : Str, (decide (x.length ≤ 1000) && (!decide (x ∈ poolS) && !wordS x)) = true → ∃ ko, Odd G3 ko (.str x) := fun x h => by
        obtain ⟨b1, b2⟩ := Bool.and_eq_true_iff.mp h
        obtain ⟨b2, b3⟩ := Bool.and_eq_true_iff.mp b2
        have b2 : x ∉ poolS := by simpa using b2
        have b3 : wordS x = false := by simpa using b3
        exact ⟨.text x, .str x, .inl ⟨x, rfl, of_decide_eq_true b1⟩, b3, fun y hy e => by
          cases e
          exact b2 hy⟩
      simp only [List.mem_cons, List.not_mem_nil, or_false] at hv
      rcases hv with rfl | rfl | rfl | rfl | rfl | rfl | rfl | rfl | rfl | rfl
      · exact oS _ (by decide +kernel)
      · exact oS _ (by decide +kernel)
      · exact ⟨_, .non, .inr (.inl rfl), rfl, fun y _ e => nomatch e⟩
      · exact ⟨_, .int 5, .inr (.inr (.inr (.inl ⟨_, rfl⟩))), rfl, fun y _ e => nomatch e⟩
      · exact ⟨_, .bl true, .inr (.inr (.inl ⟨_, rfl⟩)), rfl, fun y _ e => nomatch e⟩
      · exact ⟨_, .tup (xs := [Str.ofString "a"]) ht1, .inr (.inr (.inr (.inr ⟨_, _, rfl, ht1⟩))), rfl, fun y _ e => nomatch e⟩
      · exact oS _ (by decide +kernel)
      · exact oS _ (by decide +kernel)
      · exact oS _ (by decide +kernel)
      · exact ⟨_, .int (-1), .inr (.inr (.inr (.inl ⟨_, rfl⟩))), rfl, fun y _ e => nomatch e⟩
    clear hv w2
    have hD3 := kp3 D _ Dp (v2 _ _ (v1 _ _ hD))
    refine fun a na => ⟨_, rfl, D, _, rfl, .inl (by rw [upd_ne (ne_of_none hD3 na)]; exact hD3), fun L nL => ⟨_, _, rfl, ?_⟩⟩
    have na3 : G3 a = none := na
    have aL : L ≠ a := fun e => by
      rw [e, upd_same] at nL
      cases nL
    have nL3 : G3 L = none := by
      rw [upd_ne aL] at nL
      exact nL
    have ekeys : (ps.map kvS).map (fun kv => kV kv.1) = (ps.map (·.1)).map V.str := by
      rw [List.map_map, List.map_map]
      rfl
    rw [ekeys]
    have S5 : Same G3 (L2.upd (L2.upd G3 a (dM w a [])) L (.lst ((ps.map (·.1)).map V.str))) := (Same.new na3).trans (Same.new nL)
    have hA5 : (L2.upd (L2.upd G3 a (dM w a [])) L (.lst ((ps.map (·.1)).map V.str))) a = some (dM w a []) := by rw [upd_ne aL.symm, upd_same]
    have hL5 : (L2.upd (L2.upd G3 a (dM w a [])) L (.lst ((ps.map (·.1)).map V.str))) L = some (.lst ((ps.map (·.1)).map V.str)) := upd_same
    generalize L2.upd (L2.upd G3 a (dM w a [])) L (.lst ((ps.map (·.1)).map V.str)) = G5 at S5 hA5 hL5
    have P5 := P3.same S5
    have ap := P3.ne na3
    have al := P3.nel na3
    have Lp := P3.ne nL3
    refine ⟨_, rfl, _, rfl, .ref L, _, rfl, .inl ⟨_, SqL.of hL5, rfl⟩, ?_⟩
    rw [List.length_map, List.length_map, bx.len]
    refine ⟨p, l, _, _, rfl, P5, by omega, by omega, by omega, fun at_ G6 a0 a1 kp6 P6 => ?_⟩
    refine ⟨_, rfl, p, l, _, 2, rfl, P6, by omega, by decide, by decide, fun d2 G7 b0 b1 kp7 P7 => ?_⟩
    refine ⟨rfl, _, _, rfl, ?_⟩
    have hD7 : G7 D = some (.dK (ps.map kvS)) := kp7 _ _ Dp (kp6 _ _ Dp (S5 _ _ hD3))
    have hA7 := kp7 _ _ ap (kp6 _ _ ap hA5)
    have hL7 := kp7 _ _ Lp (kp6 _ _ Lp hL5)
    have K7 : Kp p G3 G7 := ((Kp.same S5).trans kp6).trans kp7
    have hp3 := P3
    have tups7 : ∀ t xs, G3 t = some (.tup xs) → G7 t = some (.tup xs) := by
      obtain ⟨_, _, _, hp, _⟩ := P3
      exact kp_tups hp (fun xs e => nomatch e) K7
    have odd7 : Odd G7 ko vo := ⟨odd.key.same tups7, odd.it.same tups7, odd.no, odd.out⟩
    have K0 : Kp p G G7 := ((Kp.same (v1.trans v2)).trans kp3).trans K7
    have P7' := P7.mono (show c + 1 + 1 + 1 ≤ c + 3 by omega)
    have aD : a ≠ D := fun e => by
      rw [e, hD7] at hA7
      cases hA7
    have aL' := aL.symm
    clear ht1 odd S5 hA5 hL5 hD3 P5 P6 hp3 tups7 kp6 kp7 P7
    generalize decide (V.int d2 = V.int 0) = b
    refine ⟨_, rfl, L, _, rfl, SqL.of hL7, for_it walk_enum (fun i σ' G' => ∃ (o7 o8 o9 : Option V) (es : List En), σ' = [some (.ref p), some (.ref D), some vo, some (.ref a), some (.ref L), some (.int at_), some (.bl b), o7, o8, o9] ∧ Kp p G G' ∧ G' D = some (.dK (ps.map kvS)) ∧ G' L = some (.lst ((ps.map (·.1)).map V.str)) ∧ G' a = some (dM w a es) ∧
        (∀ t xs, G7 t = some (.tup xs) → G' t = some (.tup xs)) ∧ es.length = i ∧ (∀ e ∈ es, (∃ y ∈ (ps.take i).map (·.1), e.1 = .text y) ∨ (at_ < (i : Int) ∧ e.1 = ko)) ∧ (∀ e ∈ es, KeyV G' e.1 e.2.1 ∧ ItK G' e.2.1 ∧ ItK G' e.2.2) ∧ (at_ < (i : Int) → ∃ e ∈ es, badE e = true) ∧ Pen G' p l (c + 3))
      ⟨none, none, none, [], rfl, K0, hD7, hL7, hA7, fun _ _ h => h, rfl, (fun e h => nomatch h), (fun e h => nomatch h), fun h => absurd h (by omega), P7'⟩ (fun i σ' G' _ ⟨_, _, _, _, _, _, _, hL, _⟩ => SqL.of hL) ?_ ?_⟩
    · rintro i y0 σ1 G1 G2 hi ⟨o7, o8, o9, es, rfl, kp, hD1, hL1, hA1, tp, hn, hkeys, hes, hbad, P1⟩ ⟨Tp, x1, x2, rfl, hT, rfl, e1, e2⟩
      have e1 : some (V.int (i : Nat)) = some x1 := e1
      cases e1
      have hi' : i < ps.length := by rw [List.length_map, List.length_map] at hi; exact hi
      obtain ⟨q, hq⟩ : ∃ q, ps[i]? = some q := ⟨_, List.getElem?_eq_getElem hi'⟩
      have e2 : ((ps.map (·.1)).map V.str)[i]? = some x2 := e2
      rw [List.getElem?_map, List.getElem?_map, hq] at e2
      cases e2
      have hqm := List.mem_of_getElem? hq
      have bl := bx.len
      obtain ⟨q1, q2⟩ := bx.mem q hqm
      have sm2 : Same G1 (L2.upd G1 Tp (.tup [.int (i : Nat), .str q.1])) := Same.new hT
      have tup2 : ∀ t xs, G1 t = some (.tup xs) → (L2.upd G1 Tp (.tup [.int (i : Nat), .str q.1])) t = some (.tup xs) := fun t xs h => sm2 _ _ h
      have sqT : (L2.upd G1 Tp (.tup [.int (i : Nat), .str q.1])) Tp = some (.tup [.int (i : Nat), .str q.1]) := upd_same
      have hD2 := sm2 _ _ hD1
      have hL2 := sm2 _ _ hL1
      have hA2 := sm2 _ _ hA1
      have kp2 := kp.trans (Kp.same sm2)
      have P2' := P1.same sm2
      generalize L2.upd G1 Tp (.tup [.int (i : Nat), .str q.1]) = G2 at sm2 tup2 sqT hD2 hL2 hA2 kp2 P2'
      refine ⟨Tp, _, rfl, SqT.of sqT, rfl, _, _, rfl, _, _, rfl, rfl, ?_⟩
      have small : ∀ z ∈ poolS, z.length ≤ 1000 := fun z hz => by
        have := (pool_txt z hz).2.1
        omega
      have odd2 : Odd G2 ko vo := ⟨odd7.key.same fun t xs h => tup2 _ _ (tp _ _ h), odd7.it.same fun t xs h => tup2 _ _ (tp _ _ h), odd7.no, odd7.out⟩
      have get : valV (ps.map kvS) (.inr q.1 : Key) = some (.str q.2) := valV_some bx.nd q hqm
      have qout : q.1 ∉ (ps.take i).map (·.1) := fun z => by
        obtain ⟨r, hr', er⟩ := List.mem_map.mp z
        obtain ⟨j, hj⟩ := List.mem_iff_getElem?.mp hr'
        have jl : j < i := by
          have := (List.getElem?_eq_some_iff.mp hj).1
          rw [List.length_take] at this
          omega
        rw [List.getElem?_take_of_lt jl] at hj
        have nd := bx.nd
        have h1 : (ps.map (·.1))[j]? = some q.1 := by rw [List.getElem?_map, hj]; exact congrArg some er
        have h2 : (ps.map (·.1))[i]? = some q.1 := by rw [List.getElem?_map, hq]; rfl
        have := (List.getElem?_inj (by rw [List.length_map]; omega) nd).mp (h1.trans h2.symm)
        omega
      -- what is stored
      have fin : ∀ (kx : NestedKey) (x yv : V), KeyV G2 kx x → ItK G2 x → ItK G2 yv → (∀ e ∈ es, e.1 ≠ kx) → (kx = .text q.1 ∨ ((i : Int) = at_ ∧ kx = ko)) → ((i : Int) = at_ → badE (kx, x, yv) = true) →
          ∃ a' es' k', (V.ref a) = .ref a' ∧ G2 a' = some (dM w a' es') ∧ KeyV G2 k' x ∧ (∀ e ∈ es', KeyV G2 e.1 e.2.1 ∧ e.1 ≠ k') ∧ es'.length < sizeLine ∧
            ∃ (o7 o8 o9 : Option V) (es2 : List En), [some (.ref p), some (.ref D), some vo, some (.ref a), some (.ref L), some (.int at_), some (.bl b), some (V.int (i : Nat)), some (V.str q.1), some x] = [some (.ref p), some (.ref D), some vo, some (.ref a), some (.ref L), some (.int at_), some (.bl b), o7, o8, o9] ∧ Kp p G (L2.upd G2 a' (dM w a' (es' ++ [(k', x, yv)]))) ∧ (L2.upd G2 a' (dM w a' (es' ++ [(k', x, yv)]))) D = some (.dK (ps.map kvS)) ∧ (L2.upd G2 a' (dM w a' (es' ++ [(k', x, yv)]))) L = some (.lst ((ps.map (·.1)).map V.str)) ∧ (L2.upd G2 a' (dM w a' (es' ++ [(k', x, yv)]))) a = some (dM w a es2) ∧
              (∀ t xs, G7 t = some (.tup xs) → (L2.upd G2 a' (dM w a' (es' ++ [(k', x, yv)]))) t = some (.tup xs)) ∧ es2.length = i + 1 ∧ (∀ e ∈ es2, (∃ y ∈ (ps.take (i + 1)).map (·.1), e.1 = .text y) ∨ (at_ < ((i + 1 : Nat) : Int) ∧ e.1 = ko)) ∧ (∀ e ∈ es2, KeyV (L2.upd G2 a' (dM w a' (es' ++ [(k', x, yv)]))) e.1 e.2.1 ∧ ItK (L2.upd G2 a' (dM w a' (es' ++ [(k', x, yv)]))) e.2.1 ∧ ItK (L2.upd G2 a' (dM w a' (es' ++ [(k', x, yv)]))) e.2.2) ∧ (at_ < ((i + 1 : Nat) : Int) → ∃ e ∈ es2, badE e = true) ∧ Pen (L2.upd G2 a' (dM w a' (es' ++ [(k', x, yv)]))) p l (c + 3) := by
        intro kx x yv h1 h2 h3 h4 h5 h6
        have tupA : ∀ t xs, G2 t = some (.tup xs) → (L2.upd G2 a (dM w a (es ++ [(kx, x, yv)]))) t = some (.tup xs) := fun t xs h => by
          rw [upd_ne fun e => by rw [e, hA2] at h; cases h]
          exact h
        have all2 : ∀ e ∈ es ++ [(kx, x, yv)], KeyV G2 e.1 e.2.1 ∧ ItK G2 e.2.1 ∧ ItK G2 e.2.2 := fun e he => by
          rcases List.mem_append.mp he with he | he
          · obtain ⟨z1, z2, z3⟩ := hes e he
            exact ⟨z1.same tup2, z2.same tup2, z3.same tup2⟩
          · rw [List.mem_singleton.mp he]
            exact ⟨h1, h2, h3⟩
        refine ⟨a, es, kx, rfl, hA2, h1, fun e he => ⟨((hes e he).1).same tup2, h4 e he⟩, by rw [hn]; exact big_line' (by omega), _, _, _, es ++ [(kx, x, yv)], rfl, kp2.fresh (show G a = none from ?_), by rw [upd_ne aD.symm]; exact hD2, by rw [upd_ne aL]; exact hL2, upd_same, fun t xs h => tupA _ _ (tup2 _ _ (tp _ _ h)), by simp [hn], fun e he => ?_, fun e he => ?_, fun h => ?_, P2'.upd ap al⟩
        · exact (v1.trans v2).free (kp3.free ap na3)
        · rcases List.mem_append.mp he with he | he
          · rcases hkeys e he with ⟨z, hz, ez⟩ | ⟨hz, ez⟩
            · refine .inl ⟨z, ?_, ez⟩
              obtain ⟨r, hr', er⟩ := List.mem_map.mp hz
              exact List.mem_map.mpr ⟨r, List.mem_of_mem_take (by rw [List.take_take, Nat.min_eq_left (Nat.le_succ i)]; exact hr'), er⟩
            · exact .inr ⟨by omega, ez⟩
          · rw [List.mem_singleton.mp he]
            rcases h5 with h5 | ⟨h5, h5'⟩
            · refine .inl ⟨q.1, ?_, h5⟩
              rw [take_get hq, List.map_append]
              exact List.mem_append_right _ (List.mem_singleton.mpr rfl)
            · exact .inr ⟨by omega, h5'⟩
        · obtain ⟨z1, z2, z3⟩ := all2 e he
          exact ⟨z1.same tupA, z2.same tupA, z3.same tupA⟩
        · by_cases hlt : at_ < (i : Int)
          · obtain ⟨e, he, hb⟩ := hbad hlt
            exact ⟨e, List.mem_append_left _ he, hb⟩
          · exact ⟨(kx, x, yv), List.mem_append_right _ (List.mem_singleton.mpr rfl), h6 (by omega)⟩
      have textNew : ∀ e ∈ es, e.1 ≠ .text q.1 := fun e he => by
        rcases hkeys e he with ⟨z, hz, ez⟩ | ⟨hz, ez⟩
        · rw [ez]
          exact fun h => by
            cases h
            exact qout hz
        · rw [ez]
          exact odd2.out _ q1
      refine ⟨_, rfl, _, rfl, rfl, _, rfl, ?_⟩
      have wq1 : wordV (.str q.1) = true := (pool_txt _ q1).2.2
      have itS : ∀ z ∈ poolS, ItK G2 (.str z) := fun z hz => .inl ⟨z, rfl, small z hz⟩
      have box : ∀ (σ : L2.St) (R : V → Hp → Prop), σ[1]? = some (some (.ref D)) → σ[8]? = some (some (.str q.1)) → R (.str q.2) G2 → tDGet (tVar 1) (tVar 8) σ G2 R := fun σ R h1 h8 hR =>
        ⟨_, h1, _, h8, D, _, rfl, .inl ⟨_, .inr q.1, .inl hD2, rfl, get.symm⟩, hR⟩
      refine ite2 (fun hk => ?_) (fun hk => ?_)
      · have hk' : (i : Int) = at_ := V.int.inj (of_decide_eq_true hk)
        have noOdd : ∀ e ∈ es, e.1 ≠ ko := fun e he => by
          rcases hkeys e he with ⟨z, hz, ez⟩ | ⟨hz, _⟩
          · rw [ez]
            obtain ⟨r, hr', er⟩ := List.mem_map.mp hz
            exact fun h => odd2.out z (by rw [← er]; exact (bx.mem r (List.mem_of_mem_take hr')).1) h.symm
          · omega
        cases b with
        | true =>
          refine ⟨_, rfl, _, rfl, iteT ⟨_, rfl, ?_⟩⟩
          refine ⟨_, rfl, _, rfl, rfl, _, rfl, ite2 (fun _ => ?_) (fun h => absurd hk h)⟩
          refine ⟨_, rfl, _, rfl, iteF (box _ _ rfl rfl ⟨_, rfl, _, rfl, ?_⟩)⟩
          refine fin ko vo (.str q.2) odd2.key odd2.it (itS _ q2) noOdd (.inr ⟨hk', rfl⟩) fun _ => ?_
          show (!(wordV vo && wordV (.str q.2))) = true
          rw [odd2.no]
          rfl
        | false =>
          refine ⟨_, rfl, _, rfl, iteF ⟨_, rfl, ?_⟩⟩
          refine ⟨_, rfl, _, rfl, rfl, _, rfl, ite2 (fun _ => ?_) (fun h => absurd hk h)⟩
          refine ⟨_, rfl, _, rfl, iteT ⟨_, rfl, _, rfl, _, rfl, ?_⟩⟩
          refine fin (.text q.1) (.str q.1) vo (.str _) (itS _ q1) odd2.it textNew (.inl rfl) fun _ => ?_
          show (!(wordV (.str q.1) && wordV vo)) = true
          rw [odd2.no, Bool.and_false]
          rfl
      · have hk' : ¬ (i : Int) = at_ := fun e => hk (decide_eq_true (by rw [← e]))
        refine iteF ⟨_, rfl, ?_⟩
        refine ⟨_, rfl, _, rfl, rfl, _, rfl, ite2 (fun h => absurd h hk) (fun _ => ?_)⟩
        refine iteF (box _ _ rfl rfl ⟨_, rfl, _, rfl, ?_⟩)
        exact fin (.text q.1) (.str q.1) (.str q.2) (.str _) (itS _ q1) (itS _ q2) textNew (.inl rfl) fun h => absurd h hk'
    · rintro σ1 G1 ⟨o7, o8, o9, es, rfl, kp, hD1, hL1, hA1, tp, hn, hkeys, hes, hbad, P1⟩
      rw [List.length_map, List.length_map, bx.len] at hn hbad
      exact ⟨_, rfl, k a es G1 ((v1.trans v2).free (kp3.free ap na3)) hn (hbad (by omega)) (fun e he => (hes e he).2) kp P1 hA1⟩
end
end K04
set_option Elab.async false
set_option linter.all false
set_option maxRecDepth 100000
set_option maxHeartbeats 8000000
namespace K04
open PySem PySem.Spec PyProof.Rows L2 TL Qh Qi Ql ClX Qst Qkw Qmd Qmk Qcm K04.Sw
abbrev sNamed : Stmt := top 20
abbrev sEleven : Stmt := top 22
abbrev sTen : Stmt := top 23
abbrev wordsS : Str := Str.ofString "words"
abbrev wordTxt : Str := Str.ofString "word"
/-- the class method, as it is called -/
structure OfM (P : Program) (w : World) (K : PySem.W.Frag) (mg : Str → Option Value) (base : Heap) (C CE : Addr) : Prop where
  of : ∃ mc p g fd, CRead K C mc ∧ CMet K C mc "of" p g ∧ FnR P w K mg base (L2.CX P w) 6 g (spOf K w C CE) ∧ FnOk P w K mg base (L2.CX P w) 6 g fd ["cls", "pairs"] (spOf K w C CE) ∧
    (∀ (u : Value) (ws : List Value), ws.length + 1 = 2 → bindArgs fd ⟨[u], ([Str.ofString "pairs"] : List Str).zip ws⟩ = pure ((["cls", "pairs"] : List Str).zip (u :: ws)))
/-- what is heard of Swap.of(v), v not good -/
def spHeard (K : PySem.W.Frag) (w : World) : Sp := fun vs G Q _ => ∃ v, vs = [v] ∧
  ((∃ (a : Addr) (es : List En), v = .ref a ∧ G a = some (dM w a es) ∧ (∀ e ∈ es, ItK G e.2.1 ∧ ItK G e.2.2) ∧ (inSize es.length = false → ∀ q G', Same G G' → G' q = some (.tup [.str wordsS, .non]) → Q (.ref q) G') ∧
      (inSize es.length = true → (∃ e ∈ es, badE e = true) ∧ ∀ q G', Kp a G G' → G' q = some (.tup [.str wordTxt, .non]) → Q (.ref q) G')) ∨
   (∃ t, TyX K G v t ∧ PySem.W.kitOne K t (.type "dict") = some false ∧ ∀ q G', Same G G' → G' q = some (.tup [.str wordsS, .non]) → Q (.ref q) G') ∨
   ∃ (a : Addr) (ps : List (Str × Str)), v = .ref a ∧ G a = some (.dK (ps.map kvS)) ∧ (∀ p ∈ ps, okT p) ∧ inSize ps.length = false ∧ ∀ q G', Same G G' → G' q = some (.tup [.str wordsS, .non]) → Q (.ref q) G')
section
variable {P : Program} {w : World} {K : PySem.W.Frag} {mg : Str → Option Value} {base : Heap}
theorem known_kv {G : Hp} {p : Str × Str} (h : okT p) : Known K G (kV (kvS p).1) ∧ Known K G (kvS p).2 := by
  obtain ⟨_, _, h1, h2⟩ := h
  exact ⟨.inl ⟨p.1, rfl, by omega⟩, .inl ⟨p.2, rfl, by omega⟩⟩
theorem scHeard : FnScope ["_law_thing", "_law_caught", "error"] ["_law_thing"] (defScope sHeard) := ⟨rfl, rfl, rfl, by decide +kernel, rfl, by decide +kernel, by decide +kernel⟩
theorem ok_heard {C CE CQ : Addr} (D : DefIn K mg "_law_heard" sHeard) (B : Blt mg) (T : SwapC K mg C) (TE : ErrN P w K mg base "InvalidStep" ["reason", "index"] CE) (gQ : mg "QuoteError" = some (.ref CQ)) (ex : PySem.W.exmOne K (.ref CE) (.ref CQ) = some true) (ki : PySem.W.kitOne K (.ref CE) (.ref CE) = some true)
    (M : OfM P w K mg base C CE) : Ok P w K mg base "_law_heard" (defArgs sHeard) ["_law_thing"] 7 (spHeard K w) := by
  refine D.ok scHeard (fun vs G Q E h => ?_) (fun _ _ _ _ _ _ us hl => match us, hl with | [_], _ => rfl) (fun f cdv A out t G vs Q E hr h => ?_)
  · obtain ⟨v, rfl, _⟩ := h
    rfl
  · obtain ⟨v, rfl, h⟩ := h
    obtain ⟨mc, pm, g, fd, cr, cm, F, _⟩ := M.of
    refine ⟨_, (pss_cons (ps_set (i := 1) scHeard.nd rfl (by first | exact Or.inl rfl | exact Or.inr rfl) pe_non)
      (pss_cons (ps_try_held (i := 2) (j := 1) rfl rfl rfl scHeard.nd rfl rfl rfl rfl (by decide) (by decide) rfl ⟨rfl, by decide, .inl gQ⟩ takes0
        (fun W pn xe tk _ => pss_one (ps_expr (pe_cmethT (pe_glob (v := .ref C) rfl T.g rfl) cr cm F hr tk (pa_cons (pv 0) pa_nil)))))
      (pss_cons (ps_if (pt_cmpR op_isN (pv 1) pe_non (nomark _)) (pss_one (ps_ret pe_non)) pss_nil)
      (pss_one (ps_ret (pe_ifExp (pt_val (pe_callB call_errIs (by rfl) B.n_isinstance bt_isinstance (pa_cons (pv 1) (pa_cons (pe_glob (v := .ref CE) rfl TE.c.g rfl) pa_nil)))) (pn_tup (pa_cons (pe_errF (pv 1)) (pa_cons (pe_errF (pv 1)) pa_nil))) (pn_tup (pa_cons pe_str (pa_cons pe_non pa_nil))))))))), ?_⟩
    refine ⟨rfl, _, rfl, v, rfl, ?_⟩
    rcases h with ⟨a, es, rfl, ha, hes, k1, k2⟩ | ⟨ty, hty, hk, kE⟩ | ⟨a, ps, rfl, ha, hok, hsz, kE⟩
    · have kno : ∀ e ∈ es, ∀ G', Kp a G G' → Known K G' e.2.1 ∧ Known K G' e.2.2 := fun e he G' kp => by
        have tp := kp_tups ha (fun xs e => nomatch e) kp
        exact ⟨((hes e he).1.same tp).known, ((hes e he).2.same tp).known⟩
      refine .inl ⟨a, es, rfl, ha, kno, fun hs d G' es => ?_, fun hs => ⟨?_, fun d G' hn kp hd => ?_⟩⟩
      · refine ⟨true, ex, fun _ b hb => ?_, fun z => nomatch z⟩
        have hd := (es.2.2)
        have db : d ≠ b := ne_of_none hd hb
        have hdb := (show (L2.upd G' b (exk (.ref CE) (some d) b)) d = G' d from upd_ne db).trans hd
        refine ⟨_, rfl, rfl, _, rfl, iteF ?_⟩
        refine ⟨_, rfl, b, CE, d, _, .ref CE, .ref CE, true, rfl, upd_same, hdb, TE.c.ec, fun u r => r, ki, _, rfl, ?_⟩
        refine iteT ⟨_, rfl, b, CE, d, _, _, rfl, upd_same, hdb, TE.c.xf, TE.no _ List.mem_cons_self, rfl, _, rfl, b, CE, d, _, _, rfl, upd_same, hdb, TE.c.xf, TE.no _ (List.mem_cons_of_mem _ List.mem_cons_self), rfl, by show 2 ≤ sizeLine; decide, fun q G2 np s2 hq => ?_⟩
        exact (fun q G2 s2 hq => k1 hs q G2 (es.2.1.trans s2) hq) q G2 ((Qh.Same.new hb).trans s2) hq
      · obtain ⟨⟨e, he, hb⟩, _⟩ := k2 hs
        refine ⟨e, he, ?_⟩
        unfold badE at hb
        simpa only [Bool.not_eq_true'] using hb
      · refine ⟨true, ex, fun _ b hb => ?_, fun z => nomatch z⟩
        have hd' := hd
        have db : d ≠ b := ne_of_none hd' hb
        have hdb := (show (L2.upd G' b (exk (.ref CE) (some d) b)) d = G' d from upd_ne db).trans hd'
        refine ⟨_, rfl, rfl, _, rfl, iteF ?_⟩
        refine ⟨_, rfl, b, CE, d, _, .ref CE, .ref CE, true, rfl, upd_same, hdb, TE.c.ec, fun u r => r, ki, _, rfl, ?_⟩
        refine iteT ⟨_, rfl, b, CE, d, _, _, rfl, upd_same, hdb, TE.c.xf, TE.no _ List.mem_cons_self, rfl, _, rfl, b, CE, d, _, _, rfl, upd_same, hdb, TE.c.xf, TE.no _ (List.mem_cons_of_mem _ List.mem_cons_self), rfl, by show 2 ≤ sizeLine; decide, fun q G2 np s2 hq => ?_⟩
        exact (fun q G2 s2 hq => (k2 hs).2 q G2 (kp.trans (Kp.same s2)) hq) q G2 ((Qh.Same.new hb).trans s2) hq
    · refine .inr (.inl ⟨ty, hty, hk, fun d G' es => ?_⟩)
      refine ⟨true, ex, fun _ b hb => ?_, fun z => nomatch z⟩
      have hd := (es.2.2)
      have db : d ≠ b := ne_of_none hd hb
      have hdb := (show (L2.upd G' b (exk (.ref CE) (some d) b)) d = G' d from upd_ne db).trans hd
      refine ⟨_, rfl, rfl, _, rfl, iteF ?_⟩
      refine ⟨_, rfl, b, CE, d, _, .ref CE, .ref CE, true, rfl, upd_same, hdb, TE.c.ec, fun u r => r, ki, _, rfl, ?_⟩
      refine iteT ⟨_, rfl, b, CE, d, _, _, rfl, upd_same, hdb, TE.c.xf, TE.no _ List.mem_cons_self, rfl, _, rfl, b, CE, d, _, _, rfl, upd_same, hdb, TE.c.xf, TE.no _ (List.mem_cons_of_mem _ List.mem_cons_self), rfl, by show 2 ≤ sizeLine; decide, fun q G2 np s2 hq => ?_⟩
      exact (fun q G2 s2 hq => kE q G2 (es.2.1.trans s2) hq) q G2 ((Qh.Same.new hb).trans s2) hq
    · refine .inr (.inr ⟨a, _, rfl, ha, fun e he G' _ => ?_, fun _ d G' es => ?_, fun h => ?_, fun h => ?_⟩)
      · obtain ⟨p, hp, rfl⟩ := List.mem_map.mp he
        exact known_kv (hok p hp)
      · refine ⟨true, ex, fun _ b hb => ?_, fun z => nomatch z⟩
        have hd := (es.2.2)
        have db : d ≠ b := ne_of_none hd hb
        have hdb := (show (L2.upd G' b (exk (.ref CE) (some d) b)) d = G' d from upd_ne db).trans hd
        refine ⟨_, rfl, rfl, _, rfl, iteF ?_⟩
        refine ⟨_, rfl, b, CE, d, _, .ref CE, .ref CE, true, rfl, upd_same, hdb, TE.c.ec, fun u r => r, ki, _, rfl, ?_⟩
        refine iteT ⟨_, rfl, b, CE, d, _, _, rfl, upd_same, hdb, TE.c.xf, TE.no _ List.mem_cons_self, rfl, _, rfl, b, CE, d, _, _, rfl, upd_same, hdb, TE.c.xf, TE.no _ (List.mem_cons_of_mem _ List.mem_cons_self), rfl, by show 2 ≤ sizeLine; decide, fun q G2 np s2 hq => ?_⟩
        exact (fun q G2 s2 hq => kE q G2 (es.2.1.trans s2) hq) q G2 ((Qh.Same.new hb).trans s2) hq
      · rw [List.length_map, hsz] at h
        cases h
      · rw [List.length_map, hsz] at h
        cases h
end
end K04
set_option Elab.async false
set_option linter.all false
set_option maxRecDepth 100000
set_option maxHeartbeats 8000000
namespace K04
open PySem PySem.Spec PyProof.Rows L2 TL Qh Qi Ql ClX Qst Qkw Qmd Qmk Qcm K04.Sw
section
variable {P : Program} {w : World} {K : PySem.W.Frag} {mg : Str → Option Value} {base : Heap}
/-- an instance is made with these keywords -/
theorem mk_swap {C CE : Addr} {ks : List Str} {zs : List V} {H2 : Hp} {Q : Addr → Hp → Prop} {E : XK} (hl : zs.length = ks.length) (kn : ∀ e ∈ kwKvs ks zs, ∀ G', Same H2 G' → Known K G' (kV e.1) ∧ Known K G' e.2)
    (e1 : inSize (kwKvs ks zs).length = false → ∀ d G', Same H2 G' → G' d = some (.xd [("index", .non), ("reason", .str wordsS)]) → E (.ref CE) (some d) G')
    (e2 : inSize (kwKvs ks zs).length = true → (¬ ∀ e ∈ kwKvs ks zs, kvWord e = true) → ∀ d G', Same H2 G' → G' d = some (.xd [("index", .non), ("reason", .str wordTxt)]) → E (.ref CE) (some d) G')
    (ok : inSize (kwKvs ks zs).length = true → (∀ e ∈ kwKvs ks zs, kvWord e = true) → ∀ ps x G', SortP (kwKvs ks zs) ps → H2 x = none → Same H2 G' → SwapAt C G' x ps → Q x G') :
    ∀ x dx, H2 x = none → H2 dx = none → dx ≠ x → spKw ks (spInit K C CE) (.ref x :: zs) (L2.upd (L2.upd H2 dx (.own x)) x (.ins C dx [])) (fun v H3 => v = .non ∧ Q x H3) E := by
  intro x dx hx hdx ne
  refine ⟨.ref x, zs, rfl, hl, fun p hp => ?_⟩
  have px : p ≠ x := fun e => by
    rw [e, upd_same] at hp
    cases hp
  have pd : p ≠ dx := fun e => by
    rw [e, upd_ne ne, upd_same] at hp
    cases hp
  have np : H2 p = none := by
    rw [upd_ne px, upd_ne pd] at hp
    exact hp
  have s0 : Same H2 (L2.upd (L2.upd H2 dx (.own x)) x (.ins C dx [])) := fun b o e => by
    rw [upd_ne (ne_of_none e hx), upd_ne (ne_of_none e hdx)]
    exact e
  have s1 : Same H2 (L2.upd (L2.upd (L2.upd H2 dx (.own x)) x (.ins C dx [])) p (.dK (kwKvs ks zs))) := fun b o e => Same.new hp _ _ (s0 _ _ e)
  refine ⟨x, dx, p, kwKvs ks zs, rfl, by rw [upd_ne px.symm, upd_same], upd_same, fun e he G' kp => kn e he G' fun b o eb => kp b o (ne_of_none eb np) (s1 _ _ eb), fun hs d G' es => e1 hs d G' (s1.trans es.2.1) es.2.2, fun hs hw d G' hn kp hd => e2 hs hw d G' (fun b o eb => kp b o (ne_of_none eb np) (s1 _ _ eb)) hd, fun hs hw ps D G' srt kp hx' ht => ⟨rfl, ?_⟩⟩
  exact ok hs hw ps x G' srt hx (fun b o eb => kp b o (ne_of_none eb hx) (s1 _ _ eb)) ⟨dx, D, hx', ht⟩
/-- what is heard: the reasons, none where nothing is heard -/
inductive Hd (G : Hp) : List V → List (Option Str) → Prop
  | nil : Hd G [] []
  | non {vs : List V} {rs : List (Option Str)} : Hd G vs rs → Hd G (.non :: vs) (none :: rs)
  | som {t : Addr} {r : Str} {vs : List V} {rs : List (Option Str)} : G t = some (.tup [.str r, .non]) → Hd G vs rs → Hd G (.ref t :: vs) (some r :: rs)
theorem Hd.same {G G' : Hp} (s : ∀ t xs, G t = some (.tup xs) → G' t = some (.tup xs)) : ∀ {vs : List V} {rs : List (Option Str)}, Hd G vs rs → Hd G' vs rs
  | _, _, .nil => .nil
  | _, _, .non h => .non (Hd.same s h)
  | _, _, .som e h => .som (s _ _ e) (Hd.same s h)
theorem Hd.app {G : Hp} {us : List V} {qs : List (Option Str)} (h2 : Hd G us qs) : ∀ {vs : List V} {rs : List (Option Str)}, Hd G vs rs → Hd G (vs ++ us) (rs ++ qs)
  | _, _, .nil => h2
  | _, _, .non h => .non (Hd.app h2 h)
  | _, _, .som e h => .som e (Hd.app h2 h)
def hdD : Option Str → PyData
  | none => .none
  | some r => .tuple [.str r, .none]
theorem Hd.dp {G : Hp} : ∀ {vs : List V} {rs : List (Option Str)}, Hd G vs rs → DpAll K G vs (rs.map hdD)
  | _, _, .nil => .nil
  | _, _, .non h => .cons .non (Hd.dp h)
  | _, _, .som e h => .cons (.tup (SqT.of e) (.cons (.str _) (.cons .non .nil))) (Hd.dp h)
abbrev k2 : List Str := [Str.ofString "mice", Str.ofString "mouse"]
abbrev k2r : List Str := [Str.ofString "mouse", Str.ofString "mice"]
abbrev k1 : List Str := [Str.ofString "Mice"]
abbrev k10 : List Str := [Str.ofString "pairs", Str.ofString "table", Str.ofString "words", Str.ofString "given", Str.ofString "values", Str.ofString "mapping", Str.ofString "items", Str.ofString "steps", Str.ofString "text", Str.ofString "data"]
abbrev k11 : List Str := [Str.ofString "aa", Str.ofString "bb", Str.ofString "cc", Str.ofString "dd", Str.ofString "ee", Str.ofString "ff", Str.ofString "gg", Str.ofString "hh", Str.ofString "ii", Str.ofString "jj", Str.ofString "kk"]
abbrev kwLists : List (List Str) := [[], k1, k2, k2r, k10, k11]
/-- calls with keywords, each of them -/
structure KwM (P : Program) (w : World) (K : PySem.W.Frag) (mg : Str → Option Value) (base : Heap) (C CE : Addr) : Prop where
  ms : ∃ f, Mk K C f ∧ ∀ ks ∈ kwLists, FnRW P w K mg base (L2.CX P w) 4 f ks (spKw ks (spInit K C CE))
abbrev namedN : List Str := ["_law_one", "_law_other", "_law_heard_here", "_law_k", "_law_caught", "error"]
def namedR : List (Option Str) := [some wordsS, some wordTxt, some wordTxt, none]
def spNamed (K : PySem.W.Frag) : Sp := fun vs G Q _ => ∃ (v : V) (y : Str), vs = [v, .str y] ∧ (∀ G', Same G G' → Known K G' v) ∧ wordV v = false ∧ y ∈ poolS ∧ ∀ L xs G', Same G G' → G' L = some (.lst xs) → Hd G' xs namedR → Q (.ref L) G'
theorem scNamed : FnScope namedN ["_law_one", "_law_other"] (defScope sNamed) := ⟨rfl, rfl, rfl, by decide +kernel, rfl, by decide +kernel, by decide +kernel⟩
theorem ok_named {C CE : Addr} (D : DefIn K mg "_law_named_heard" sNamed) (B : Blt mg) (T : SwapC K mg C) (TE : ErrN P w K mg base "InvalidStep" ["reason", "index"] CE) (ex : PySem.W.exmOne K (.ref CE) (.ref CE) = some true)
    (M : KwM P w K mg base C CE) : Ok P w K mg base "_law_named_heard" (defArgs sNamed) ["_law_one", "_law_other"] 6 (spNamed K) := by
  refine D.ok scNamed (fun vs G Q E h => ?_) (fun _ _ _ _ _ _ us hl => match us, hl with | [_, _], _ => rfl) (fun f cdv A out t G vs Q E hr h => ?_)
  · obtain ⟨v, y, rfl, _⟩ := h
    rfl
  · obtain ⟨v, y, rfl, kn, wv, hy, k⟩ := h
    obtain ⟨fI, MK, FI⟩ := M.ms
    refine ⟨_, (pss_cons (ps_set (i := 2) scNamed.nd rfl (by first | exact Or.inl rfl | exact Or.inr rfl) (pn_lst pa_nil))
    (pss_cons (ps_for (passes_of rfl) rfl (pi_range1 (by rfl) B.n_range (pa_cons pe_int pa_nil)) (pg_name (i := 3) scNamed.nd rfl (by first | exact Or.inl rfl | exact Or.inr rfl))
      (pss_cons (ps_set (i := 4) scNamed.nd rfl (by first | exact Or.inl rfl | exact Or.inr rfl) pe_non)
    (pss_cons (ps_try_held (i := 5) (j := 4) rfl rfl rfl scNamed.nd rfl rfl rfl rfl (by decide) (by decide) rfl ⟨rfl, by decide, .inl TE.c.g⟩ takes0 (fun W pn xe tk _ =>
      (pss_cons (ps_if (pt_cmpR op_eq (pv 3) pe_int (nomark _)) (pss_one (ps_expr (pe_makeW MK (FI [] (by simp)) hr tk T.g pk_nil))) pss_nil)
    (pss_cons (ps_if (pt_cmpR op_eq (pv 3) pe_int (nomark _)) (pss_one (ps_expr (pe_makeW MK (FI k2 (by simp)) hr tk T.g (pk_cons (pv 0) (pk_cons (pv 1) pk_nil))))) pss_nil)
    (pss_cons (ps_if (pt_cmpR op_eq (pv 3) pe_int (nomark _)) (pss_one (ps_expr (pe_makeW MK (FI k1 (by simp)) hr tk T.g (pk_cons pe_str pk_nil)))) pss_nil)
    (pss_one (ps_if (pt_cmpR op_eq (pv 3) pe_int (nomark _)) (pss_one (ps_expr (pe_makeW MK (FI k2 (by simp)) hr tk T.g (pk_cons pe_str (pk_cons pe_str pk_nil))))) pss_nil)))))))
    (pss_one (ps_expr (pe_bm PySem.F.plainAttrs_list PySem.F.slot_list_append PySem.F.type_list_append mt_append (pv 2) (pa_cons (pe_ifExp (pt_cmpR op_isN (pv 4) pe_non (nomark _)) pe_non (pn_tup (pa_cons (pe_errF (pv 4)) (pa_cons (pe_errF (pv 4)) pa_nil)))) pa_nil)))))))
    (pss_one (ps_ret (pv 2))))), ?_⟩
    refine ⟨by show 0 ≤ sizeLine; decide, fun L G1 nL sL eL => ?_⟩
    refine ⟨4, rfl, by decide, by decide, ?_⟩
    refine for_range (fun i σ' G' => ∃ (o3 o4 o5 : Option V) (xs : List V), σ' = [some v, some (.str y), some (.ref L), o3, o4, o5] ∧ Kp L G1 G' ∧ G' L = some (.lst xs) ∧ xs.length = i ∧ Hd G' xs (namedR.take i)) ⟨none, none, none, [], rfl, Kp.refl _ _, eL, rfl, .nil⟩ ?_ ?_
    · rintro i σ1 G2 hi ⟨o3, o4, o5, xs, rfl, kp, hL, hn, hd⟩
      -- the heap behind an append
      have fin : ∀ (x : V) (r : Option Str) (G5 : Hp) (o3 o4 o5 : Option V), Same G2 G5 → Hd G5 [x] [r] → namedR.take (i + 1) = namedR.take i ++ [r] →
          G5 L = some (.lst xs) ∧ xs.length < sizeLine ∧ ∃ (p3 p4 p5 : Option V) (ys : List V), [some v, some (.str y), some (.ref L), o3, o4, o5] = [some v, some (.str y), some (.ref L), p3, p4, p5] ∧ Kp L G1 (L2.upd G5 L (.lst (xs ++ [x]))) ∧ (L2.upd G5 L (.lst (xs ++ [x]))) L = some (.lst ys) ∧ ys.length = i + 1 ∧ Hd (L2.upd G5 L (.lst (xs ++ [x]))) ys (namedR.take (i + 1)) := by
        intro x r G5 o3 o4 o5 sm h1 e
        have hL5 := sm _ _ hL
        have tp : ∀ t zs, G5 t = some (.tup zs) → (L2.upd G5 L (.lst (xs ++ [x]))) t = some (.tup zs) := fun t zs h => by
          rw [upd_ne fun e => by rw [e, hL5] at h; cases h]
          exact h
        refine ⟨hL5, by rw [hn]; exact big_line' (by omega), _, _, _, xs ++ [x], rfl, (kp.trans (Kp.same sm)).trans Kp.self, upd_same, by simp [hn], ?_⟩
        rw [e]
        exact Hd.app (h1.same tp) ((hd.same fun t zs h => sm _ _ h).same tp)
      have G2s : Same G G2 := fun b o e => kp b o (ne_of_none e nL) (sL _ _ e)
      have i4 : i = 0 ∨ i = 1 ∨ i = 2 ∨ i = 3 := by omega
      rcases i4 with rfl | rfl | rfl | rfl
      · refine ⟨_, rfl, rfl, _, rfl, ite2 (fun _ => ?_) (fun h => absurd (by decide) h)⟩
        refine ⟨rfl, mk_swap (C := C) (CE := CE) (ks := []) (zs := []) (H2 := G2) rfl (fun e he => (nomatch he)) (fun _ d G' sm hd0 => ?_) (fun h => absurd h (by decide)) (fun h => absurd h (by decide))⟩
        refine ⟨true, ex, fun _ b hb => ?_, fun z => nomatch z⟩
        have db : d ≠ b := ne_of_none hd0 hb
        have hdb := (show (L2.upd G' b (exk (.ref CE) (some d) b)) d = G' d from upd_ne db).trans hd0
        have smb := Same.trans sm (Same.new (o := exk (.ref CE) (some d) b) hb)
        refine ⟨_, rfl, .inl ⟨rfl, _, SqL.of (smb _ _ hL)⟩, _, rfl, rfl, _, rfl, iteF ?_⟩
        refine ⟨_, rfl, b, CE, d, _, _, rfl, upd_same, hdb, TE.c.xf, TE.no _ List.mem_cons_self, rfl, _, rfl, b, CE, d, _, _, rfl, upd_same, hdb, TE.c.xf, TE.no _ (List.mem_cons_of_mem _ List.mem_cons_self), rfl, by show 2 ≤ sizeLine; decide, fun q G3 np s2 hq => ?_⟩
        obtain ⟨f1, f2, f3⟩ := fin (.ref q) (some wordsS) G3 _ _ _ (smb.trans s2) (.som hq .nil) rfl
        exact ⟨L, xs, _, rfl, rfl, f1, f2, f3⟩
      · have kvs1 : ∀ e ∈ kwKvs k2 [v, .str y], e = (.inr (Str.ofString "mice"), v) ∨ e = (.inr (Str.ofString "mouse"), .str y) := fun e he => by
          rcases List.mem_cons.mp he with h | he
          · exact .inl h
          · exact .inr (List.mem_singleton.mp he)
        refine ⟨_, rfl, rfl, _, rfl, ite2 (fun h => absurd h (by decide)) (fun _ => ?_)⟩
        refine ⟨_, rfl, rfl, _, rfl, ite2 (fun _ => ?_) (fun h => absurd (by decide) h)⟩
        refine ⟨_, rfl, _, rfl, rfl, mk_swap (C := C) (CE := CE) (ks := k2) (zs := [v, .str y]) (H2 := G2) rfl (fun e he G' sm => ?_) (fun h => absurd (show inSize 2 = false from h) (by decide)) (fun _ _ d G' sm hd0 => ?_) (fun _ hw => absurd (hw _ List.mem_cons_self) ?_)⟩
        · rcases kvs1 e he with rfl | rfl
          · exact ⟨.inl ⟨_, rfl, by decide +kernel⟩, kn G' (G2s.trans sm)⟩
          · have := (pool_txt y hy).2.1
            exact ⟨.inl ⟨_, rfl, by decide +kernel⟩, .inl ⟨y, rfl, by omega⟩⟩
        · refine ⟨true, ex, fun _ b hb => ?_, fun z => nomatch z⟩
          have db : d ≠ b := ne_of_none hd0 hb
          have hdb := (show (L2.upd G' b (exk (.ref CE) (some d) b)) d = G' d from upd_ne db).trans hd0
          have smb := Same.trans sm (Same.new (o := exk (.ref CE) (some d) b) hb)
          refine ⟨_, rfl, .inl ⟨rfl, _, SqL.of (smb _ _ hL)⟩, _, rfl, rfl, _, rfl, iteF ?_⟩
          refine ⟨_, rfl, b, CE, d, _, _, rfl, upd_same, hdb, TE.c.xf, TE.no _ List.mem_cons_self, rfl, _, rfl, b, CE, d, _, _, rfl, upd_same, hdb, TE.c.xf, TE.no _ (List.mem_cons_of_mem _ List.mem_cons_self), rfl, by show 2 ≤ sizeLine; decide, fun q G3 np s2 hq => ?_⟩
          obtain ⟨f1, f2, f3⟩ := fin (.ref q) (some wordTxt) G3 _ _ _ (smb.trans s2) (.som hq .nil) rfl
          exact ⟨L, xs, _, rfl, rfl, f1, f2, f3⟩
        · show ¬ (wordV (.str (Str.ofString "mice")) && wordV v) = true
          rw [wv, Bool.and_false]
          exact Bool.false_ne_true
      · refine ⟨_, rfl, rfl, _, rfl, ite2 (fun h => absurd h (by decide)) (fun _ => ?_)⟩
        refine ⟨_, rfl, rfl, _, rfl, ite2 (fun h => absurd h (by decide)) (fun _ => ?_)⟩
        refine ⟨_, rfl, rfl, _, rfl, ite2 (fun _ => ?_) (fun h => absurd (by decide) h)⟩
        refine ⟨rfl, mk_swap (C := C) (CE := CE) (ks := k1) (zs := [.str (Str.ofString "mouse")]) (H2 := G2) rfl (fun e he G' sm => ?_) (fun h => absurd h (by decide)) (fun _ _ d G' sm hd0 => ?_) (fun _ hw => absurd (hw _ List.mem_cons_self) (by decide +kernel))⟩
        · rw [List.mem_singleton.mp he]
          exact ⟨.inl ⟨_, rfl, by decide +kernel⟩, .inl ⟨_, rfl, by decide +kernel⟩⟩
        · refine ⟨true, ex, fun _ b hb => ?_, fun z => nomatch z⟩
          have db : d ≠ b := ne_of_none hd0 hb
          have hdb := (show (L2.upd G' b (exk (.ref CE) (some d) b)) d = G' d from upd_ne db).trans hd0
          have smb := Same.trans sm (Same.new (o := exk (.ref CE) (some d) b) hb)
          refine ⟨_, rfl, .inl ⟨rfl, _, SqL.of (smb _ _ hL)⟩, _, rfl, rfl, _, rfl, iteF ?_⟩
          refine ⟨_, rfl, b, CE, d, _, _, rfl, upd_same, hdb, TE.c.xf, TE.no _ List.mem_cons_self, rfl, _, rfl, b, CE, d, _, _, rfl, upd_same, hdb, TE.c.xf, TE.no _ (List.mem_cons_of_mem _ List.mem_cons_self), rfl, by show 2 ≤ sizeLine; decide, fun q G3 np s2 hq => ?_⟩
          obtain ⟨f1, f2, f3⟩ := fin (.ref q) (some wordTxt) G3 _ _ _ (smb.trans s2) (.som hq .nil) rfl
          exact ⟨L, xs, _, rfl, rfl, f1, f2, f3⟩
      · refine ⟨_, rfl, rfl, _, rfl, ite2 (fun h => absurd h (by decide)) (fun _ => ?_)⟩
        refine ⟨_, rfl, rfl, _, rfl, ite2 (fun h => absurd h (by decide)) (fun _ => ?_)⟩
        refine ⟨_, rfl, rfl, _, rfl, ite2 (fun h => absurd h (by decide)) (fun _ => ?_)⟩
        refine ⟨_, rfl, rfl, _, rfl, ite2 (fun _ => ?_) (fun h => absurd (by decide) h)⟩
        have kvs3 : ∀ e ∈ kwKvs k2 [V.str (Str.ofString "mouse"), V.str (Str.ofString "a")], e = (.inr (Str.ofString "mice"), .str (Str.ofString "mouse")) ∨ e = (.inr (Str.ofString "mouse"), .str (Str.ofString "a")) := fun e he => by
          rcases List.mem_cons.mp he with h | he
          · exact .inl h
          · exact .inr (List.mem_singleton.mp he)
        refine ⟨rfl, mk_swap (C := C) (CE := CE) (ks := k2) (zs := [.str (Str.ofString "mouse"), .str (Str.ofString "a")]) (H2 := G2) rfl (fun e he G' sm => ?_) (fun h => absurd h (by decide)) (fun _ hw => absurd (fun e he => ?_) hw) (fun _ _ ps x G' _ _ sm _ => ?_)⟩
        · rcases kvs3 e he with rfl | rfl
          · exact ⟨.inl ⟨_, rfl, by decide +kernel⟩, .inl ⟨_, rfl, by decide +kernel⟩⟩
          · exact ⟨.inl ⟨_, rfl, by decide +kernel⟩, .inl ⟨_, rfl, by decide +kernel⟩⟩
        · rcases kvs3 e he with rfl | rfl
          · decide +kernel
          · decide +kernel
        · refine ⟨_, rfl, .inl ⟨rfl, _, SqL.of (sm _ _ hL)⟩, _, rfl, rfl, _, rfl, iteT ?_⟩
          obtain ⟨f1, f2, f3⟩ := fin .non none G' _ _ _ sm (.non .nil) rfl
          exact ⟨L, xs, _, rfl, rfl, f1, f2, f3⟩
    · rintro σ1 G2 ⟨o3, o4, o5, xs, rfl, kp, hL, hn, hd⟩
      exact ⟨_, rfl, k L xs G2 (fun b o e => kp b o (ne_of_none e nL) (sL _ _ e)) hL hd⟩
end
end K04
set_option Elab.async false
set_option linter.all false
set_option maxRecDepth 100000
set_option maxHeartbeats 8000000
namespace K04
open PySem PySem.Spec PyProof.Rows L2 TL Qh Qi Ql ClX Qst Qkw Qmd Qmk Qcm K04.Sw
/-! ### pairs in order: there is one way -/
theorem pair_total {p q : Str × Str} (h1 : ltK (pairK p) (pairK q) = false) (h2 : ltK (pairK q) (pairK p) = false) : p = q := by
  have e := lex_total (O := itemOrd) _ _ h1 h2
  have e : [ik (.inr p.1), ik (.inr p.2)] = [ik (.inr q.1), ik (.inr q.2)] := e
  have inj : ∀ x y : Str, ik (.inr x) = ik (.inr y) → x = y := fun x y h => by
    have h : (Sum.inr x.cps.toList : Int ⊕ List Nat) = .inr y.cps.toList := h
    have h := Sum.inr.inj h
    cases x with
    | mk a =>
      cases y with
      | mk b => exact congrArg Str.mk (show a = b from Array.toList_inj.mp h)
  obtain ⟨a, b⟩ := List.cons.inj e
  obtain ⟨b, _⟩ := List.cons.inj b
  exact Prod.ext (inj _ _ a) (inj _ _ b)
theorem kvOf_inj {p q : Str × Str} (h : kvOf p = kvOf q) : p = q := by
  obtain ⟨a, b⟩ := p
  obtain ⟨c, d⟩ := q
  cases h
  rfl
theorem perm_of {ps qs : List (Str × Str)} (h : (ps.map kvOf).Perm (qs.map kvOf)) : ps.Perm qs := by
  obtain ⟨rs, p1, p2⟩ := perm_lift kvOf h qs rfl
  have : ps = rs := by
    have inj : ∀ (l m : List (Str × Str)), l.map kvOf = m.map kvOf → l = m := by
      intro l
      induction l with
      | nil => intro m e; cases m with
        | nil => rfl
        | cons _ _ => cases e
      | cons a l ih =>
        intro m e
        cases m with
        | nil => cases e
        | cons b m =>
          obtain ⟨e1, e2⟩ := List.cons.inj e
          rw [kvOf_inj e1, ih m e2]
    first | exact inj _ _ p1 | exact inj _ _ p1.symm | exact inj _ _ p2 | exact inj _ _ p2.symm
  subst this
  first | exact p2 | exact p2.symm | exact p1 | exact p1.symm
theorem sortP_uniq {kvs : List (Key × V)} {ps qs : List (Str × Str)} (h : SortP kvs ps) (k : SortP kvs qs) : ps = qs :=
  List.Perm.eq_of_pairwise (fun a b _ _ h k => pair_total k h) h.2 k.2 (perm_of (h.1.trans k.1.symm))
/-! ### tuples of pairs as data -/
def pairD (p : Str × Str) : PyData := .tuple [.str p.1, .str p.2]
def pairsD (ps : List (Str × Str)) : PyData := .tuple (ps.map pairD)
theorem pairs_dp {K : PySem.W.Frag} {G : Hp} : ∀ {as : List Addr} {ps : List (Str × Str)}, PairsAt G as ps → DpAll K G (as.map V.ref) (ps.map pairD)
  | _, _, .nil => .nil
  | _, _, .cons h t => .cons (.tup (SqT.of h) (.cons (.str _) (.cons (.str _) .nil))) (pairs_dp t)
theorem tups_dp {K : PySem.W.Frag} {G : Hp} {D : Addr} {ps : List (Str × Str)} (h : TupsAt G D ps) : Dp K G (.ref D) (pairsD ps) := by
  obtain ⟨as, h1, h2⟩ := h
  exact .tup (SqT.of h1) (pairs_dp h2)
theorem pairs_lay : ∀ ps : List (Str × Str), PyData.depthAll (ps.map pairD) ≤ 1 ∧ PyData.showableAll (ps.map pairD) = true ∧ PyData.hasDictAll (ps.map pairD) = false
  | [] => ⟨Nat.zero_le _, rfl, rfl⟩
  | p :: ps => by
    obtain ⟨h2, h3, h4⟩ := pairs_lay ps
    refine ⟨?_, ?_, ?_⟩
    · show max 1 (PyData.depthAll (ps.map pairD)) ≤ 1
      omega
    · show (true && PyData.showableAll (ps.map pairD)) = true
      rw [h3]
      rfl
    · show (false || PyData.hasDictAll (ps.map pairD)) = false
      rw [h4]
      rfl
theorem pairs_short : ∀ {ps : List (Str × Str)}, (∀ p ∈ ps, okT p) → PyData.leavesShortAll 8 (ps.map pairD) = true ∧ PyData.weightAll (ps.map pairD) ≤ 23 * ps.length
  | [], _ => ⟨rfl, Nat.zero_le _⟩
  | p :: r, h => by
    obtain ⟨i1, i2⟩ := pairs_short fun q hq => h q (List.mem_cons_of_mem _ hq)
    obtain ⟨t1, t2, l1, l2⟩ := h p List.mem_cons_self
    constructor
    · show ((PyData.leavesShort 8 (.str p.1) && (PyData.leavesShort 8 (.str p.2) && true)) && PyData.leavesShortAll 8 (r.map pairD)) = true
      rw [i1]
      show (((p.1.cps.toList.all fun c => decide (c < 16 ^ 8)) && ((p.2.cps.toList.all fun c => decide (c < 16 ^ 8)) && true)) && true) = true
      rw [txt_all t1, txt_all t2]
      rfl
    · show (p.1.cps.size + 1 + (p.2.cps.size + 1 + 0)) + 1 + PyData.weightAll (r.map pairD) ≤ 23 * (r.length + 1)
      have l1 : p.1.cps.size ≤ 10 := l1
      have l2 : p.2.cps.size ≤ 10 := l2
      omega
theorem pairs_len {ps : List (Str × Str)} (h : ∀ p ∈ ps, okT p) (hl : ps.length ≤ 100) : (pairsD ps).shown.length ≤ sizeLine := by
  obtain ⟨h1, h2⟩ := pairs_short h
  have := PyData.shown_le 8 (by decide) (pairsD ps) h1
  have e : (pairsD ps).weight = PyData.weightAll (ps.map pairD) := rfl
  rw [e] at this
  rw [sizeLine_eq]
  omega
section
variable {P : Program} {w : World} {K : PySem.W.Frag} {mg : Str → Option Value} {base : Heap}
theorem scEleven : FnScope ["error"] [] (defScope sEleven) := ⟨rfl, rfl, rfl, by decide +kernel, rfl, by decide +kernel, by decide +kernel⟩
def spEleven : Sp := fun vs G Q _ => vs = [] ∧ ∀ q G', Same G G' → G' q = some (.tup [.str wordsS, .non]) → Q (.ref q) G'
abbrev z11 : List Str := [Str.ofString "a", Str.ofString "b", Str.ofString "c", Str.ofString "d", Str.ofString "e", Str.ofString "f", Str.ofString "g", Str.ofString "h", Str.ofString "i", Str.ofString "j", Str.ofString "k"]
theorem kw_kvS : ∀ (ks zs : List Str), kwKvs ks (zs.map V.str) = (ks.zip zs).map kvS
  | [], _ => rfl
  | _ :: _, [] => rfl
  | k :: ks, z :: zs => by
    show (Sum.inr k, V.str z) :: kwKvs ks (zs.map V.str) = kvS (k, z) :: (ks.zip zs).map kvS
    rw [kw_kvS ks zs]
    rfl
theorem ok_eleven {C CE : Addr} (D : DefIn K mg "_law_eleven_heard" sEleven) (B : Blt mg) (T : SwapC K mg C) (TE : ErrN P w K mg base "InvalidStep" ["reason", "index"] CE) (ex : PySem.W.exmOne K (.ref CE) (.ref CE) = some true)
    (M : KwM P w K mg base C CE) : Ok P w K mg base "_law_eleven_heard" (defArgs sEleven) [] 6 spEleven := by
  refine D.ok scEleven (fun vs G Q E h => ?_) (fun _ _ _ _ _ _ us hl => match us, hl with | [], _ => rfl) (fun f cdv A out t G vs Q E hr h => ?_)
  · obtain ⟨rfl, _⟩ := h
    rfl
  · obtain ⟨rfl, k⟩ := h
    obtain ⟨fI, MK, FI⟩ := M.ms
    refine ⟨_, (pss_cons (ps_try_as (i := 0) rfl rfl scEleven.nd rfl rfl ⟨rfl, by decide, .inl TE.c.g⟩ takes0 (fun W pn xe tk _ => pss_one (ps_expr (pe_makeW MK (FI k11 (by simp)) hr tk T.g (pk_cons pe_str (pk_cons pe_str (pk_cons pe_str (pk_cons pe_str (pk_cons pe_str (pk_cons pe_str (pk_cons pe_str (pk_cons pe_str (pk_cons pe_str (pk_cons pe_str (pk_cons pe_str pk_nil))))))))))))))
        (fun a oe cls d pn hz hf => pss_one (ps_ret (pn_tup (pa_cons (pe_xf TE.c.xf (TE.no _ List.mem_cons_self) hz hf (pv 0)) (pa_cons (pe_xf TE.c.xf (TE.no _ (List.mem_cons_of_mem _ List.mem_cons_self)) hz hf (pv 0)) pa_nil))))))
      (pss_one (ps_ret pe_non))), ?_⟩
    have len : (kwKvs k11 (z11.map V.str)).length = 11 := by decide +kernel
    refine ⟨rfl, mk_swap (C := C) (CE := CE) (ks := k11) (zs := z11.map V.str) (H2 := G) rfl (fun e he G' sm => ?_) (fun _ d G' sm hd0 => ?_) (fun h => ?_) (fun h => ?_)⟩
    · rw [kw_kvS] at he
      obtain ⟨p, hp, rfl⟩ := List.mem_map.mp he
      have all : ((k11.zip z11).all fun p => decide (p.1.length ≤ 1000) && decide (p.2.length ≤ 1000)) = true := by decide +kernel
      obtain ⟨l1, l2⟩ := Bool.and_eq_true_iff.mp (List.all_eq_true.mp all p hp)
      exact ⟨.inl ⟨p.1, rfl, by have := of_decide_eq_true l1; omega⟩, .inl ⟨p.2, rfl, by have := of_decide_eq_true l2; omega⟩⟩
    · refine ⟨true, ex, fun _ b hb => ?_, fun z => nomatch z⟩
      refine ⟨_, rfl, rfl, rfl, d, _, _, rfl, hd0, rfl, _, rfl, rfl, rfl, d, _, _, rfl, hd0, rfl, by show 2 ≤ sizeLine; decide, fun q G3 np s3 hq => ?_⟩
      exact k q G3 (sm.trans s3) hq
    · rw [len] at h
      cases h
    · rw [len] at h
      cases h
end
end K04
set_option Elab.async false
set_option linter.all false
set_option maxRecDepth 100000
set_option maxHeartbeats 8000000
namespace K04
open PySem PySem.Spec PyProof.Rows L2 TL Qh Qi Ql ClX Qst Qkw Qmd Qmk Qcm K04.Sw
abbrev sRight : Stmt := top 24
def tenP : List (Str × Str) := [(Str.ofString "data", Str.ofString "j"), (Str.ofString "given", Str.ofString "d"), (Str.ofString "items", Str.ofString "g"), (Str.ofString "mapping", Str.ofString "f"), (Str.ofString "pairs", Str.ofString "a"), (Str.ofString "steps", Str.ofString "h"), (Str.ofString "table", Str.ofString "b"), (Str.ofString "text", Str.ofString "i"), (Str.ofString "values", Str.ofString "e"), (Str.ofString "words", Str.ofString "c")]
def spTen : Sp := fun vs G Q _ => vs = [] ∧ ∀ D G', Same G G' → TupsAt G' D tenP → Q (.ref D) G'
theorem PairsAt.app {G : Hp} {a : Addr} {p : Str × Str} (h : G a = some (.tup [.str p.1, .str p.2])) : ∀ {as : List Addr} {ps : List (Str × Str)}, PairsAt G as ps → PairsAt G (as ++ [a]) (ps ++ [p])
  | _, _, .nil => .cons h .nil
  | _, _, .cons h1 t => .cons h1 (PairsAt.app h t)
structure SwapM (P : Program) (w : World) (K : PySem.W.Frag) (mg : Str → Option Value) (base : Heap) (C CS : Addr) : Prop where
  T : SwapC K mg C
  I : InsT K C
  rs : ∃ f fd, Meth K C "result" f ∧ Binds K fd ["self", "value"] [] ∧ (∀ (u : Value) (ws : List Value), ws.length + 1 = 2 → bindArgs fd ⟨[u], ([Str.ofString "value"] : List Str).zip ws⟩ = pure ((["self", "value"] : List Str).zip (u :: ws))) ∧ FnOk P w K mg base (L2.CX P w) 1 f fd ["self", "value"] (spResult C)
  kS : PySem.W.kitOne K (.ref C) (.ref CS) = some true
  gS : mg "Step" = some (.ref CS)
abbrev rightN : List Str := ["_law_made", "_law_box", "_law_thing", "_law_due"]
def spRight (C : Addr) : Sp := fun vs G Q _ => ∃ (m D : Addr) (ps qs : List (Str × Str)), vs = [.ref m, .ref D] ∧ SwapAt C G m qs ∧ G D = some (.dK (ps.map kvS)) ∧ (∀ p ∈ ps, okT p) ∧ (ps.map (·.1)).Nodup ∧ ps.length ≤ 11 ∧ SortP (ps.map kvS) qs ∧ ∀ G', Same G G' → Q (.bl true) G'
/-- what a swap makes of a word, by the dict -/
theorem res_get {ps qs : List (Str × Str)} (nd : (ps.map (·.1)).Nodup) (h : SortP (ps.map kvS) qs) (y : Str) : resW qs (.str y) = (valV (ps.map kvS) (.inr y : Key)).getD (.str y) := by
  have perm : qs.Perm ps := perm_of h.1
  by_cases hy : y ∈ ps.map (·.1)
  · obtain ⟨p, hp, rfl⟩ := List.mem_map.mp hy
    rw [valV_some nd p hp]
    have e : qs.find? (fun q => decide (V.str q.1 = V.str p.1)) = some p := by
      cases e : qs.find? (fun q => decide (V.str q.1 = V.str p.1)) with
      | none =>
        have := List.find?_eq_none.mp e p (perm.mem_iff.mpr hp)
        simp at this
      | some q =>
        have h1 := List.find?_some e
        have h2 := perm.mem_iff.mp (List.mem_of_find?_eq_some e)
        have h1 : q.1 = p.1 := by
          have := of_decide_eq_true h1
          exact V.str.inj this
        obtain ⟨i, hi⟩ := List.mem_iff_getElem?.mp h2
        obtain ⟨j, hj⟩ := List.mem_iff_getElem?.mp hp
        have il := (List.getElem?_eq_some_iff.mp hi).1
        have e1 : (ps.map (·.1))[i]? = some p.1 := by rw [List.getElem?_map, hi]; exact congrArg some h1
        have e2 : (ps.map (·.1))[j]? = some p.1 := by rw [List.getElem?_map, hj]; rfl
        have ij : i = j := (List.getElem?_inj (by rw [List.length_map]; exact il) nd).mp (e1.trans e2.symm)
        rw [ij, hj] at hi
        rw [Option.some.inj hi]
    unfold resW
    rw [e]
    rfl
  · rw [valV_none hy]
    have e : qs.find? (fun q => decide (V.str q.1 = V.str y)) = none := List.find?_eq_none.mpr fun q hq z => hy (by
      have := V.str.inj (of_decide_eq_true z)
      rw [← this]
      exact List.mem_map_of_mem (perm.mem_iff.mp hq))
    unfold resW
    rw [e]
    rfl
theorem res_non (qs : List (Str × Str)) : resW qs .non = .non := by
  have e : qs.find? (fun q => decide (V.str q.1 = V.non)) = none := List.find?_eq_none.mpr fun q _ z => nomatch (of_decide_eq_true z)
  unfold resW
  rw [e]
theorem pairs_at_of {H : Hp} : ∀ {ys : List (Addr × List Key)} {rs : List (Str × Str)}, ys.map (·.2) = rs.map pairK → (∀ z ∈ ys, H z.1 = some (.tup (z.2.map kV))) → PairsAt H (ys.map (·.1)) rs
  | [], [], _, _ => .nil
  | [], _ :: _, e, _ => nomatch e
  | _ :: _, [], e, _ => nomatch e
  | z :: ys, r :: rs, e, h => by
    obtain ⟨h1, h2⟩ := List.cons.inj e
    refine .cons ?_ (pairs_at_of h2 fun y hy => h y (List.mem_cons_of_mem _ hy))
    have := h z List.mem_cons_self
    rw [show z.2 = pairK r from h1] at this
    exact this
section
variable {P : Program} {w : World} {K : PySem.W.Frag} {mg : Str → Option Value} {base : Heap}
theorem scTen : FnScope ["_law_plain", "_law_k"] [] (defScope sTen) := ⟨rfl, rfl, rfl, by decide +kernel, rfl, by decide +kernel, by decide +kernel⟩
theorem ok_ten (D : DefIn K mg "_law_ten" sTen) (B : Blt mg) : Ok P w K mg base "_law_ten" (defArgs sTen) [] 1 spTen := by
  refine D.ok scTen (fun vs G Q E h => ?_) (fun _ _ _ _ _ _ us hl => match us, hl with | [], _ => rfl) (fun f cdv A out t G vs Q E hr h => ?_)
  · obtain ⟨rfl, _⟩ := h
    rfl
  · obtain ⟨rfl, k⟩ := h
    refine ⟨_, (pss_cons (ps_set (i := 0) scTen.nd rfl (by first | exact Or.inl rfl | exact Or.inr rfl) (pn_lst (pa_cons pe_str (pa_cons pe_str (pa_cons pe_str (pa_cons pe_str (pa_cons pe_str (pa_cons pe_str (pa_cons pe_str (pa_cons pe_str (pa_cons pe_str (pa_cons pe_str pa_nil))))))))))))
    (pss_one (ps_ret (pe_callTy cn_tuple (by rfl) B.n_tuple bt_tuple (pa_cons (pe_lc (own := [("_law_k", 1)]) (tt := tYes) rfl scTen.nd (pi_range1 (by rfl) B.n_range (pa_cons pe_int pa_nil)) (blkOk_by (N := ["_law_plain", "_law_k"]) (sc := defScope sTen) (by decide +kernel)) (fun _ _ _ _ _ => pg_name (i := 1) scTen.nd rfl (by first | exact Or.inl rfl | exact Or.inr rfl)) (fun _ _ _ _ _ => pts_nil) (fun _ _ _ _ _ => (pn_tup (pa_cons (pe_ix (show IxR _ (rIxL K) from ix_list) (pv 0) (pv 1) (fun _ _ => rfl)) (pa_cons (pe_ix ix_str pe_str (pv 1) (fun _ _ => rfl)) pa_nil))))) pa_nil))))), ?_⟩
    refine ⟨by show 10 ≤ sizeLine; decide, fun L G1 nL sL eL => ?_⟩
    refine ⟨10, rfl, by decide, by decide, fun Dl hDl => ?_⟩
    refine lc_range (fun i G' => ∃ as, G' Dl = some (.lst (as.map V.ref)) ∧ PairsAt G' as (tenP.take i) ∧ Same G1 G') ⟨[], upd_same, .nil, Same.new hDl⟩ ?_ ?_
    · rintro i G2 hi ⟨as, hl, pa, sm⟩
      have hi10 : i < 10 := hi
      have L2' := sm _ _ eL
      refine ⟨rfl, ?_⟩
      rw [show (0 : Int) + (i : Int) = (i : Int) by omega]
      obtain ⟨pr, hpr⟩ : ∃ p, tenP[i]? = some p := ⟨_, List.getElem?_eq_getElem (show i < tenP.length from hi10)⟩
      have keys : ∀ i, i < 10 → ∀ p, tenP[i]? = some p → ([V.str (Str.ofString "data"), V.str (Str.ofString "given"), V.str (Str.ofString "items"), V.str (Str.ofString "mapping"), V.str (Str.ofString "pairs"), V.str (Str.ofString "steps"), V.str (Str.ofString "table"), V.str (Str.ofString "text"), V.str (Str.ofString "values"), V.str (Str.ofString "words")] : List V)[i]? = some (.str p.1) ∧
          ∃ c, (Str.ofString "jdgfahbiec").cps.toList[i]? = some c ∧ (⟨#[c]⟩ : Str) = p.2 := by
        intro i hi p hp
        have : i = 0 ∨ i = 1 ∨ i = 2 ∨ i = 3 ∨ i = 4 ∨ i = 5 ∨ i = 6 ∨ i = 7 ∨ i = 8 ∨ i = 9 := by omega
        rcases this with rfl | rfl | rfl | rfl | rfl | rfl | rfl | rfl | rfl | rfl <;> (cases hp; exact ⟨rfl, _, rfl, by decide +kernel⟩)
      obtain ⟨k1, c, k2, k3⟩ := keys i hi10 pr hpr
      refine ⟨_, rfl, _, rfl, L, _, _, _, rfl, rfl, SqL.of L2', atI_nat k1, ?_⟩
      refine ⟨_, rfl, _, _, c, rfl, rfl, by decide +kernel, atI_nat k2, by show 2 ≤ sizeLine; decide, fun q G3 nq sq eq => ?_⟩
      rw [k3] at eq
      have pl : as.length = i := by
        rw [pa.len, List.length_take]
        show min i 10 = i
        omega
      refine ⟨_, sq _ _ hl, by rw [List.length_map, pl]; exact big_line' (by omega), as ++ [q], ?_, ?_, Qh.Same.fresh (sm.trans sq) hDl⟩
      · rw [upd_same, List.map_append]
        rfl
      · rw [take_get hpr]
        refine (PairsAt.app eq (pa.same fun a l e => sq _ _ e)).same fun a l e => ?_
        rw [upd_ne fun z => by
          rw [z, sq _ _ hl] at e
          cases e]
        exact e
    · rintro G2 ⟨as, hl, pa, sm⟩
      refine ⟨Dl, _, rfl, SqL.of hl, fun T G3 nT sT eT => ?_⟩
      exact k T G3 ((sL.trans sm).trans sT) ⟨as, eT, (show PairsAt G2 as tenP from pa).same fun a l e => sT _ _ e⟩
theorem scRight : FnScope rightN ["_law_made", "_law_box"] (defScope sRight) := ⟨rfl, rfl, rfl, by decide +kernel, rfl, by decide +kernel, by decide +kernel⟩
theorem ok_right {C CS : Addr} (D : DefIn K mg "_law_right" sRight) (B : Blt mg) (M : SwapM P w K mg base C CS) (F__law_pool : Ok P w K mg base "_law_pool" (defArgs sPool) [] 1 spPool) :
    OkG P w K mg base "_law_right" (defArgs sRight) ["_law_made", "_law_box"] 3 (spRight C) := by
  refine D.okG scRight (fun vs G Q E h => ?_) (fun _ _ _ _ _ _ us hl => match us, hl with | [_, _], _ => rfl) (fun f cdv A out t G vs Q E gu hr h => ?_)
  · obtain ⟨m, D, ps, qs, rfl, _⟩ := h
    rfl
  · obtain ⟨m, D, ps, qs, rfl, hM, hD, hok, nd, hl, srt, k⟩ := h
    have hu64 := hr.units
    have hu1 : (A.deeper (envOfC (Str.ofString "_law_right") (defScope sRight) t.heap.objs.size f cdv)).units + 1 < cLine := Nat.lt_of_le_of_lt (by omega) hr.un
    have hgu : (A.deeper (envOfC (Str.ofString "_law_right") (defScope sRight) t.heap.objs.size f cdv)).guards = some [] := gu
    obtain ⟨fD, fdD, MD, bD, bK, FD⟩ := M.rs
    have T := M.T
    refine ⟨_, (pss_cons (ps_for (passes_of rfl) rfl (pi_list (pe_op on_cat (pe_own0 F__law_pool (hr.mono (by decide))) (pn_lst (pa_cons pe_str (pa_cons pe_str (pa_cons pe_non pa_nil)))))) (pg_name (i := 2) scRight.nd rfl (by first | exact Or.inl rfl | exact Or.inr rfl))
      (pss_cons (ps_set (i := 3) scRight.nd rfl (by first | exact Or.inl rfl | exact Or.inr rfl) (pe_dget2N hu1 (pv 1) (pv 2) (pv 2) ⟨rfl, rfl, rfl, rfl⟩))
      (pss_one (ps_if (PW.pt (pw_or (pt_cmpR op_ne (pe_meth (pv 0) M.I.cl MD FD (hr.mono (by decide)) bD .nil passL (pa_cons (pv 2) pa_nil)) (pv 3) (nomark _)) (pw_or1 (pt_cmpR op_ne (pe_methK (pv 0) M.I.cl MD FD (hr.mono (by decide)) bK takes0 (pk_cons (pv 2) pk_nil)) (pv 3) (nomark _))))) (pss_one (ps_ret pe_bl)) pss_nil))))
    (pss_one (ps_ret (pe_and (pe_cmpR op_eq (pe_callB (call_repr hgu hu64) (by rfl) B.n_repr bt_repr (pa_cons (pe_fld (pv 0) rfl) pa_nil)) (pe_callB (call_repr hgu hu64) (by rfl) B.n_repr bt_repr (pa_cons (pe_callTy cn_tuple (by rfl) B.n_tuple bt_tuple (pa_cons (pe_callB cr_sortK (by rfl) B.n_sorted bt_sorted (pa_cons (LiI.pe_listItems rfl (pv 1) (by rfl) B.n_list bt_list) pa_nil)) pa_nil)) pa_nil)) (nomark _)) (pe_one (pe_callB call_isi (by rfl) B.n_isinstance bt_isinstance (pa_cons (pv 0) (pa_cons (pe_glob (v := .ref CS) rfl M.gS rfl) pa_nil)))))))), ?_⟩
    obtain ⟨dx, Dq, h1, h2⟩ := id hM
    refine ⟨rfl, fun a G1 n1 s1 l1 => ⟨by show 3 ≤ sizeLine; decide, fun b G2 n2 s2 l2 => ?_⟩⟩
    refine ⟨a, b, _, _, rfl, rfl, s2 _ _ l1, l2, by show 19 ≤ sizeLine; decide, fun L G3 n3 s3 l3 => ?_⟩
    have S3 : Same G G3 := (s1.trans s2).trans s3
    have D3 := S3 _ _ hD
    have M3 := hM.same S3
    have things : ∀ v ∈ (poolS.map V.str ++ [V.str (Str.ofString "mic"), V.str (Str.ofString "*"), V.non]), v = .non ∨ ∃ y, v = .str y := fun v hv => by
      rcases List.mem_append.mp hv with hv | hv
      · obtain ⟨y, _, rfl⟩ := List.mem_map.mp hv
        exact .inr ⟨y, rfl⟩
      · simp only [List.mem_cons, List.not_mem_nil, or_false] at hv
        rcases hv with rfl | rfl | rfl
        · exact .inr ⟨_, rfl⟩
        · exact .inr ⟨_, rfl⟩
        · exact .inl rfl
    refine ⟨L, rfl, ⟨_, SqL.of l3⟩, for_list (fun i σ' G' => ∃ o2 o3, σ' = [some (.ref m), some (.ref D), o2, o3] ∧ G' = G3) ⟨none, none, rfl, rfl⟩ (fun i σ' G' _ ⟨_, _, _, e⟩ => by rw [e]; exact SqL.of l3) ?_ ?_⟩
    · rintro i v σ1 G4 hv ⟨o2, o3, rfl, rfl⟩
      have hv := things v (List.mem_of_getElem? hv)
      obtain ⟨dx3, Dq3, m1, m2⟩ := id M3
      have hsc : ∀ y, scal v (.str y) = true := fun y => by
        rcases hv with rfl | ⟨z, rfl⟩ <;> rfl
      refine ⟨_, rfl, D, rfl, .inl ⟨_, .inl D3⟩, _, rfl, _, rfl, ?_⟩
      rcases hv with rfl | ⟨y, rfl⟩
      · have hu : resW qs .non = .non := res_non qs
        have hs : scal V.non V.non = true := rfl
        refine .inl ⟨rfl, ⟨_, .inl D3⟩, ?_⟩
        refine ⟨_, rfl, m, dx3, _, rfl, m1, rfl, _, rfl, m, qs, _, rfl, M3, hsc, ?_⟩
        rw [hu]
        refine ⟨_, rfl, hs, _, rfl, ?_⟩
        refine ite2 (fun h => ?_) (fun _ => ?_)
        · simp at h
        refine ⟨_, rfl, m, dx3, _, rfl, m1, rfl, _, rfl, m, qs, _, rfl, M3, hsc, ?_⟩
        rw [hu]
        refine ⟨_, rfl, hs, _, rfl, ?_⟩
        refine ite2 (fun h => ?_) (fun _ => ?_)
        · simp at h
        exact ⟨_, _, rfl, rfl⟩
      · have hu := res_get nd srt y
        have hs : scal ((valV (ps.map kvS) (.inr y : Key)).getD (.str y)) ((valV (ps.map kvS) (.inr y : Key)).getD (.str y)) = true := by
          by_cases hy : y ∈ ps.map (·.1)
          · obtain ⟨p, hp, rfl⟩ := List.mem_map.mp hy
            rw [valV_some nd p hp]
            rfl
          · rw [valV_none hy]
            rfl
        refine .inr ⟨_, (show DGet G4 D (.str y) (valV (ps.map kvS) (.inr y : Key)) from DGet.k (k := .inr y) D3), ?_⟩
        refine ⟨_, rfl, m, dx3, _, rfl, m1, rfl, _, rfl, m, qs, _, rfl, M3, hsc, ?_⟩
        rw [hu]
        refine ⟨_, rfl, hs, _, rfl, ?_⟩
        refine ite2 (fun h => ?_) (fun _ => ?_)
        · simp at h
        refine ⟨_, rfl, m, dx3, _, rfl, m1, rfl, _, rfl, m, qs, _, rfl, M3, hsc, ?_⟩
        rw [hu]
        refine ⟨_, rfl, hs, _, rfl, ?_⟩
        refine ite2 (fun h => ?_) (fun _ => ?_)
        · simp at h
        exact ⟨_, _, rfl, rfl⟩
    · rintro σ1 G4 ⟨o2, o3, rfl, rfl⟩
      obtain ⟨dx3, Dq3, m1, m2⟩ := id M3
      have perm : qs.Perm ps := perm_of srt.1
      have okq : ∀ q ∈ qs, okT q := fun q hq => hok q (perm.mem_iff.mp hq)
      obtain ⟨y1, y2, y3⟩ := pairs_lay qs
      have dq : (pairsD qs).depth ≤ 40 := by
        show PyData.depthAll (qs.map pairD) + 1 ≤ 40
        omega
      have lq := pairs_len okq (by rw [perm.length_eq]; omega)
      refine ⟨_, rfl, m, C, dx3, _, _, rfl, m1, T.cl, T.n1, rfl, Dq3, pairsD qs, rfl, tups_dp m2, y2, y3, dq, lq, ?_⟩
      refine ⟨_, rfl, D, _, rfl, D3, fun G5 l ts k5 nl nts lts el pr => ?_⟩
      have tl : ts.length = ps.length := by
        have := pr.length
        rw [List.length_map] at this
        exact this
      have em : (ts.zip (ps.map pairK)).map (fun x => V.ref x.1) = ts.map V.ref := by
        rw [show (fun x : Addr × List Key => V.ref x.1) = V.ref ∘ Prod.fst from rfl, ← List.map_map, List.map_fst_zip (by rw [List.length_map, tl]; exact Nat.le_refl _)]
      have all : ∀ (ts : List Addr) (ps : List (Str × Str)), Paired (fun (t : Addr) (q : Key × V) => G5 t = some (.tup [kV q.1, q.2])) ts (ps.map kvS) → ∀ x ∈ ts.zip (ps.map pairK), G5 x.1 = some (.tup (x.2.map kV)) ∧ Shp (fun _ => true) x.2 := by
        intro ts
        induction ts with
        | nil => exact fun ps _ x hx => nomatch hx
        | cons t ts ih =>
          intro ps pr x hx
          cases ps with
          | nil => cases pr
          | cons p ps =>
            cases pr with
            | cons r rs =>
              rcases List.mem_cons.mp hx with rfl | hx
              · exact ⟨r, shp_pair p⟩
              · exact ih ps rs x hx
      refine ⟨l, ts.zip (ps.map pairK), fun _ => true, rfl, by rw [em]; exact SqL.of el, all ts ps pr, fun ys p2 perm2 pw np2 => ?_⟩
      refine ⟨p2, _, rfl, SqL.of upd_same, fun Tt G6 nT sT eT => ?_⟩
      have es : (ts.zip (ps.map pairK)).map (·.2) = ps.map pairK := by
        rw [List.map_snd_zip (by rw [List.length_map, tl]; exact Nat.le_refl _)]
      have pm : (ys.map (·.2)).Perm (ps.map pairK) := es ▸ perm2.map (·.2)
      obtain ⟨rs, r1, r2⟩ := perm_lift pairK pm ps rfl
      have pw2 : (ys.map (·.2)).Pairwise (fun x y => ltK y x = false) := List.pairwise_map.mpr pw
      rw [← r2] at pw2
      have srt2 : SortP (ps.map kvS) rs := ⟨r1.map kvOf, List.pairwise_map.mp pw2⟩
      have eq := sortP_uniq srt2 srt
      subst eq
      have pa : PairsAt G6 (ys.map (·.1)) rs := pairs_at_of r2.symm fun z hz => by
        have := (all ts ps pr z (perm2.mem_iff.mp hz)).1
        refine sT _ _ ?_
        rw [upd_ne (ne_of_none this np2)]
        exact this
      have S6 : Same G4 G6 := fun b o e => sT _ _ (by
        have e5 := k5 _ _ e
        rw [upd_ne (ne_of_none e5 np2)]
        exact e5)
      refine ⟨Tt, pairsD rs, rfl, tups_dp ⟨ys.map (·.1), by rw [eT, List.map_map]; rfl, pa⟩, y2, y3, dq, lq, ?_⟩
      refine ⟨rfl, _, rfl, ite2 (fun _ => ?_) (fun h => absurd (decide_eq_true rfl) h)⟩
      exact ⟨_, rfl, _, _, .ref C, .ref CS, true, rfl, .own _, M.I.ty (S6 _ _ m1), M.kS, k G6 (S3.trans S6)⟩
end
end K04
set_option Elab.async false
set_option linter.all false
set_option maxRecDepth 100000
set_option maxHeartbeats 16000000
namespace K04
open PySem PySem.Spec PyProof.Rows L2 TL Qh Qi Ql Qp ClX Qst Qkw Qmd Qmk Qcm K04.Sw
abbrev sEq : Stmt := inClass (top 12) 4
abbrev sLaw : Stmt := top 25
def okW (p : Str × Str) : Prop := okT p ∧ wordS p.1 = true ∧ wordS p.2 = true
theorem Box.okW {n : Nat} {ps : List (Str × Str)} (b : Box n ps) : ∀ p ∈ ps, okW p := fun p hp => ⟨b.ok p hp, (pool_txt _ (b.mem p hp).1).2.2, (pool_txt _ (b.mem p hp).2).2.2⟩
theorem lay_pairs : ∀ {ps : List (Str × Str)}, (∀ p ∈ ps, PyData.strOk p.1 = true ∧ PyData.strOk p.2 = true) → PyData.canLayAll0 (ps.map pairD) = true
  | [], _ => rfl
  | p :: ps, h => by
    obtain ⟨h1, h2⟩ := h p List.mem_cons_self
    show ((PyData.strOk p.1 && (PyData.strOk p.2 && true)) && PyData.canLayAll0 (ps.map pairD)) = true
    rw [h1, h2, lay_pairs fun q hq => h q (List.mem_cons_of_mem _ hq)]
    rfl
theorem shaped_pairs {ps : List (Str × Str)} (h : ∀ p ∈ ps, PyData.strOk p.1 = true ∧ PyData.strOk p.2 = true) : SeqAt.shaped (pairsD ps) = true := by
  unfold SeqAt.shaped
  have h1 : (pairsD ps).canLay0 = true := lay_pairs h
  have h2 : (pairsD ps).depth ≤ 64 := by
    show PyData.depthAll (ps.map pairD) + 1 ≤ 64
    have := (pairs_lay ps).1
    omega
  rw [h1, decide_eq_true h2]
  rfl
theorem pool_strOk : ∀ y ∈ poolS, PyData.strOk y = true := fun y hy => List.all_eq_true.mp (show poolS.all PyData.strOk = true by decide +kernel) y hy
def spEqW (C : Addr) : Sp := fun vs G Q _ => ∃ (a b : Addr) (qs : List (Str × Str)), vs = [.ref a, .ref b] ∧ SwapAt C G a qs ∧ SwapAt C G b qs ∧ SeqAt.shaped (pairsD qs) = true ∧ Q (.bl true) G
structure EqW (P : Program) (w : World) (K : PySem.W.Frag) (mg : Str → Option Value) (base : Heap) (C : Addr) : Prop where
  ne : PySem.W.findIn K (.ref C) "__ne__" = some (some (.builtin "object.__ne__"))
  eq : ∃ g, PySem.W.findIn K (.ref C) "__eq__" = some (some (.ref g)) ∧ PySem.W.isFn K (.ref g) = true ∧ FnR P w K mg base (L2.CX P w) 1 g (spEqW C)
  nf : PySem.W.notFirst K C (.ref C) = true
section
variable {P : Program} {w : World} {K : PySem.W.Frag} {mg : Str → Option Value} {base : Heap}
theorem scEq : FnScope ["self", "other"] ["self", "other"] (defScope sEq) := ⟨rfl, rfl, rfl, by decide +kernel, rfl, by decide +kernel, by decide +kernel⟩
theorem ok_eqW {C f : Addr} {fd : FuncData} (F : Fun K "__eq__" "Swap.__eq__" sEq f fd) (B : Blt mg) (T : SwapC K mg C) (I : InsT K C) (ki : PySem.W.kitOne K (.ref C) (.ref C) = some true) : FnOk P w K mg base (L2.CX P w) 1 f fd ["self", "other"] (spEqW C) := by
  refine F.okX scEq (fun vs G Q E h => ?_) (fun cdv A out t G vs Q E hr h => ?_)
  · obtain ⟨a, b, qs, rfl, _⟩ := h
    rfl
  · obtain ⟨a, b, qs, rfl, ⟨dx, D, h1, h2⟩, ⟨dx', D', i1, i2⟩, sh, k⟩ := h
    have hu64 := hr.units
    refine ⟨_, pss_one (ps_ret (pe_and (pe_callB call_isi (by rfl) B.n_isinstance bt_isinstance (pa_cons (pv 1) (pa_cons (pe_glob (v := .ref C) rfl T.g rfl) pa_nil))) (pe_one (pe_cmpR (op_eqD hu64) (pe_fld (pv 0) rfl) (pe_fld (pv 1) rfl) (nomark _))))), ?_⟩
    refine ⟨_, rfl, _, _, _, _, _, rfl, .own C, I.ty i1, ki, _, rfl, ?_⟩
    refine ⟨_, rfl, a, C, dx, _, _, rfl, h1, T.cl, T.n1, rfl, ?_⟩
    refine ⟨_, rfl, b, C, dx', _, _, rfl, i1, T.cl, T.n1, rfl, ?_⟩
    refine ⟨_, _, tups_dp h2, tups_dp i2, sh, sh, ?_⟩
    rw [eqv_same sh]
    exact k
theorem box_facts {ps : List (Str × Str)} (hw : ∀ p ∈ ps, okW p) (h1 : 1 ≤ ps.length) (h10 : ps.length ≤ 10) :
    (∀ e ∈ ps.map kvS, ∀ G' : Hp, Known K G' (kV e.1) ∧ Known K G' e.2) ∧ (¬ inSize (ps.map kvS).length = false) ∧ ∀ e ∈ ps.map kvS, kvWord e = true := by
  refine ⟨fun e he G' => ?_, fun h => ?_, fun e he => ?_⟩
  · obtain ⟨p, hp, rfl⟩ := List.mem_map.mp he
    exact known_kv (hw p hp).1
  · have sz : inSize (ps.map kvS).length = true := by
      rw [List.length_map]
      unfold inSize
      rw [decide_eq_true (by omega), decide_eq_true (by omega)]
      rfl
    rw [sz] at h
    cases h
  · obtain ⟨p, hp, rfl⟩ := List.mem_map.mp he
    unfold kvWord
    show (wordS p.1 && wordS p.2) = true
    rw [(hw p hp).2.1, (hw p hp).2.2]
    rfl
abbrev lawN : List Str := ["_law_script", "_law_pen_here", "_law_turn", "_law_box", "_law_kept", "_law_lent", "_law_made", "_law_great", "_law_one", "_law_other", "_law_odd", "_law_thing"]
def spLaw (K : PySem.W.Frag) : Sp := fun vs G Q _ => ∃ (a : Addr) (ns : List Int), vs = [.ref a] ∧ SqL K G a (ns.map V.int) ∧ ∀ G', Q (.bl true) G'
end
end K04
set_option Elab.async false
set_option linter.all false
set_option maxRecDepth 100000
set_option maxHeartbeats 32000000
namespace K04
open PySem PySem.Spec PyProof.Rows L2 TL Qh Qi Ql Qp ClX Qst Qkw Qmd Qmk Qcm K04.Sw
abbrev micS : Str := Str.ofString "mic"
/-- the pairs of mice and mouse -/
def boxT (y z : Str) : List (Str × Str) := [(Str.ofString "mice", y), (Str.ofString "mouse", z)]
def boxR (y z : Str) : List (Str × Str) := [(Str.ofString "mouse", z), (Str.ofString "mice", y)]
theorem mice_ok : (txt (Str.ofString "mice") = true ∧ (Str.ofString "mice").length ≤ 10 ∧ wordS (Str.ofString "mice") = true ∧ PyData.strOk (Str.ofString "mice") = true) ∧ txt (Str.ofString "mouse") = true ∧ (Str.ofString "mouse").length ≤ 10 ∧ wordS (Str.ofString "mouse") = true ∧ PyData.strOk (Str.ofString "mouse") = true := by decide +kernel
theorem boxT_ok {y z : Str} (hy : y ∈ poolS) (hz : z ∈ poolS) : ∀ q ∈ boxT y z, okW q := fun q hq => by
  obtain ⟨y1, y2, y3⟩ := pool_txt y hy
  obtain ⟨z1, z2, z3⟩ := pool_txt z hz
  obtain ⟨⟨a1, a2, a3, a4⟩, b1, b2, b3, b4⟩ := mice_ok
  rcases List.mem_cons.mp hq with rfl | hq
  · exact ⟨⟨a1, y1, a2, y2⟩, a3, y3⟩
  · rw [List.mem_singleton.mp hq]
    exact ⟨⟨b1, z1, b2, z2⟩, b3, z3⟩
theorem boxR_ok {y z : Str} (h : ∀ q ∈ boxT y z, okW q) : ∀ q ∈ boxR y z, okW q := fun q hq => h q (by
  rcases List.mem_cons.mp hq with rfl | hq
  · exact List.mem_cons_of_mem _ List.mem_cons_self
  · rw [List.mem_singleton.mp hq]
    exact List.mem_cons_self)
theorem boxT_str {y z : Str} (hy : y ∈ poolS) (hz : z ∈ poolS) : ∀ q ∈ boxT y z, PyData.strOk q.1 = true ∧ PyData.strOk q.2 = true := fun q hq => by
  obtain ⟨⟨a1, a2, a3, a4⟩, b1, b2, b3, b4⟩ := mice_ok
  rcases List.mem_cons.mp hq with rfl | hq
  · exact ⟨a4, pool_strOk y hy⟩
  · rw [List.mem_singleton.mp hq]
    exact ⟨b4, pool_strOk z hz⟩
theorem boxT_nd (y z : Str) : ((boxT y z).map (·.1)).Nodup := show [Str.ofString "mice", Str.ofString "mouse"].Nodup by decide +kernel
theorem merge_box (y z : Str) : mergeK [] ((boxT y z).map kvS) = (boxT y z).map kvS := by
  show putK (putK [] (Sum.inr (Str.ofString "mice") : Key) (V.str y)) (.inr (Str.ofString "mouse")) (V.str z) = _
  have e1 : putK [] (Sum.inr (Str.ofString "mice") : Key) (V.str y) = [(Sum.inr (Str.ofString "mice"), V.str y)] := rfl
  rw [e1, putK_new]
  · rfl
  · exact valV_none (ps := [(Str.ofString "mice", y)]) (show Str.ofString "mouse" ∉ [Str.ofString "mice"] by decide +kernel)
abbrev z10 : List Str := [Str.ofString "a", Str.ofString "b", Str.ofString "c", Str.ofString "d", Str.ofString "e", Str.ofString "f", Str.ofString "g", Str.ofString "h", Str.ofString "i", Str.ofString "j"]
theorem okW_of {ps : List (Str × Str)} (h : (ps.all fun p => (txt p.1 && txt p.2) && ((decide (p.1.length ≤ 10) && decide (p.2.length ≤ 10)) && (wordS p.1 && wordS p.2))) = true) : ∀ p ∈ ps, okW p := fun p hp => by
  have := List.all_eq_true.mp h p hp
  simp only [Bool.and_eq_true, decide_eq_true_eq] at this
  exact ⟨⟨this.1.1, this.1.2, this.2.1.1, this.2.1.2⟩, this.2.2.1, this.2.2.2⟩
theorem ten_ok : ∀ p ∈ k10.zip z10, okW p := okW_of (by decide +kernel)
theorem ten_sort : SortP (kwKvs k10 (z10.map V.str)) tenP := ⟨by decide +kernel, by decide +kernel⟩
def abcP : List (Str × Str) := [(Str.ofString "a", Str.ofString "b"), (Str.ofString "b", Str.ofString "c"), (Str.ofString "c", Str.ofString "a")]
theorem abc_ok : ∀ p ∈ abcP, okW p := okW_of (by decide +kernel)
theorem merge_abc : mergeK [] (abcP.map kvS) = abcP.map kvS := by decide +kernel
theorem _root_.Qh.Pen.kp2 {G G' : Hp} {p l a : Addr} {c : Int} (P : Pen G p l c) (k : Kp a G G') (hp : p ≠ a) (hl : l ≠ a) : Pen G' p l c := by
  obtain ⟨n, g, ns, h1, h2, h3⟩ := P
  exact ⟨n, g, ns, k _ _ hp h1, k _ _ hl h2, h3⟩
theorem swapAt_kp {C a x : Addr} {G G' : Hp} {kvs : List (Key × V)} {qs : List (Str × Str)} (ha : G a = some (.dK kvs)) (k : Kp a G G') (h : SwapAt C G x qs) : SwapAt C G' x qs := by
  obtain ⟨dx, D, h1, h2⟩ := h
  refine ⟨dx, D, k _ _ (fun e => ?_) h1, h2.same (kp_tups ha (fun xs e => nomatch e) k)⟩
  rw [e, ha] at h1
  cases h1
section
variable {P : Program} {w : World} {K : PySem.W.Frag} {mg : Str → Option Value} {base : Heap}
theorem scLaw : FnScope lawN ["_law_script"] (defScope sLaw) := ⟨rfl, rfl, rfl, by decide +kernel, rfl, by decide +kernel, by decide +kernel⟩
theorem ok_law {C CS CE fl : Addr} {fdl : FuncData} (D : Fun K "law" "law" sLaw fl fdl) (B : Blt mg) (M : SwapM P w K mg base C CS) (OM : OfM P w K mg base C CE) (KM : KwM P w K mg base C CE) (EM : EqW P w K mg base C)
    (F__law_pen : Ok P w K mg base "_law_pen" (defArgs sPen) ["_law_script"] 1 (spPen K))
    (F__law_draw : Ok P w K mg base "_law_draw" (defArgs sDraw) ["_law_pen_here", "_law_many"] 1 spDraw)
    (F__law_pick : Ok P w K mg base "_law_pick" (defArgs sPick) ["_law_pen_here", "_law_some"] 2 (spPick K))
    (F__law_pool : Ok P w K mg base "_law_pool" (defArgs sPool) [] 1 spPool)
    (F__law_pairs : Ok P w K mg base "_law_pairs" (defArgs sPairs) ["_law_pen_here", "_law_many"] 3 spPairs)
    (F__law_heard : Ok P w K mg base "_law_heard" (defArgs sHeard) ["_law_thing"] 7 (spHeard K w))
    (F__law_spoilt : Ok P w K mg base "_law_spoilt" (defArgs sSpoilt) ["_law_pen_here", "_law_box"] 3 (spSpoilt w))
    (F__law_named : Ok P w K mg base "_law_named_heard" (defArgs sNamed) ["_law_one", "_law_other"] 6 (spNamed K))
    (F__law_eleven : Ok P w K mg base "_law_eleven_heard" (defArgs sEleven) [] 6 spEleven)
    (F__law_ten : Ok P w K mg base "_law_ten" (defArgs sTen) [] 1 spTen)
    (F__law_right : OkG P w K mg base "_law_right" (defArgs sRight) ["_law_made", "_law_box"] 3 (spRight C)) :
    FnG P w K mg base (L2.CX P w) 8 fl fdl ["_law_script"] (spLaw K) := by
  refine Qh.okG D scLaw (fun vs G Q E h => ?_) (fun cdv A out t G vs Q E gu hr h => ?_)
  · obtain ⟨a, ns, rfl, _⟩ := h
    rfl
  · obtain ⟨a, ns, rfl, hS, k⟩ := h
    have hu64 := hr.units
    have hu1 : (A.deeper (envOfC (Str.ofString "law") (defScope sLaw) t.heap.objs.size fl cdv)).units + 1 < cLine := Nat.lt_of_le_of_lt (by omega) hr.un
    have hgu : (A.deeper (envOfC (Str.ofString "law") (defScope sLaw) t.heap.objs.size fl cdv)).guards = some [] := gu
    obtain ⟨fR, fdR, MR, bR, bK, FR⟩ := M.rs
    obtain ⟨mc, pm, g, fd, cr, cm, FO, FO2, bO⟩ := OM.of
    obtain ⟨fI, MK, FI⟩ := KM.ms
    obtain ⟨gE, iE, fE, FE⟩ := EM.eq
    have T := M.T
    refine ⟨_, (pss_cons (ps_set (i := 1) scLaw.nd rfl (by first | exact Or.inl rfl | exact Or.inr rfl) (pe_own F__law_pen (hr.mono (by decide)) takes0 (pa_cons (pv 0) pa_nil)))
      (pss_cons (ps_for (passes_of rfl) rfl (pi_range1 (by rfl) B.n_range (pa_cons pe_int pa_nil)) (pg_name (i := 2) scLaw.nd rfl (by first | exact Or.inl rfl | exact Or.inr rfl))
      (pss_cons (ps_set (i := 3) scLaw.nd rfl (by first | exact Or.inl rfl | exact Or.inr rfl) (pe_own F__law_pairs (hr.mono (by decide)) takes0 (pa_cons (pv 1) (pa_cons (pe_ix ix_list (pn_lst (pa_cons pe_int (pa_cons pe_int (pa_cons (pe_op op_add pe_int (pe_own F__law_draw (hr.mono (by decide)) takes0 (pa_cons (pv 1) (pa_cons pe_int pa_nil)))) (pa_cons pe_int pa_nil))))) (pe_own F__law_draw (hr.mono (by decide)) takes0 (pa_cons (pv 1) (pa_cons pe_int pa_nil))) (fun _ _ => rfl)) pa_nil))))
      (pss_cons (ps_set (i := 4) scLaw.nd rfl (by first | exact Or.inl rfl | exact Or.inr rfl) (pe_callB (call_reprD hgu hu64) (by rfl) B.n_repr bt_repr (pa_cons (pv 3) pa_nil)))
      (pss_cons (ps_if (PW.pt (pw_or (pt_not (pt_val (pe_ownG F__law_right hgu (hr.mono (by decide)) (pa_cons (pe_cmethT (pe_glob (v := .ref C) rfl T.g rfl) cr cm FO (hr.mono (by decide)) takes0 (pa_cons (pv 3) pa_nil)) (pa_cons (pv 3) pa_nil))))) (pw_or (pt_not (pt_val (pe_ownG F__law_right hgu (hr.mono (by decide)) (pa_cons (pe_cmethK (pe_glob (v := .ref C) rfl T.g rfl) cr cm FO2 (hr.mono (by decide)) bO takes0 (pk_cons (pv 3) pk_nil)) (pa_cons (pv 3) pa_nil))))) (pw_or1 (pt_cmpR op_ne (pe_callB (call_reprD hgu hu64) (by rfl) B.n_repr bt_repr (pa_cons (pv 3) pa_nil)) (pv 4) (nomark _)))))) (pss_one (ps_ret pe_bl)) pss_nil)
      (pss_cons (ps_set (i := 5) scLaw.nd rfl (by first | exact Or.inl rfl | exact Or.inr rfl) (pe_callTy cn_dictOf (by rfl) B.n_dict bt_dict (pa_cons (pv 3) pa_nil)))
      (pss_cons (ps_set (i := 6) scLaw.nd rfl (by first | exact Or.inl rfl | exact Or.inr rfl) (pe_cmethT (pe_glob (v := .ref C) rfl T.g rfl) cr cm FO (hr.mono (by decide)) takes0 (pa_cons (pv 5) pa_nil)))
      (pss_cons (ps_dput hu1 (pv 5) pe_str pe_str (by rfl))
      (pss_cons (ps_expr (pe_dpop1 (pv 5) (pe_ix ix_list (pe_callTy (call_listD rfl) (by rfl) B.n_list bt_list (pa_cons (pv 3) pa_nil)) pe_int (fun _ _ => rfl)) ⟨rfl, rfl, rfl, rfl⟩))
      (pss_cons (ps_if (pt_not (pt_val (pe_ownG F__law_right hgu (hr.mono (by decide)) (pa_cons (pv 6) (pa_cons (pv 3) pa_nil))))) (pss_one (ps_ret pe_bl)) pss_nil)
      (pss_cons (ps_if (pt_cmpR (op_neD hu64) (pe_own F__law_heard (hr.mono (by decide)) takes0 (pa_cons (pe_own F__law_spoilt (hr.mono (by decide)) takes0 (pa_cons (pv 1) (pa_cons (pv 3) pa_nil))) pa_nil)) (pn_tup (pa_cons pe_str (pa_cons pe_non pa_nil))) (nomark _)) (pss_one (ps_ret pe_bl)) pss_nil)
      (pss_cons (ps_set (i := 7) scLaw.nd rfl (by first | exact Or.inl rfl | exact Or.inr rfl) (pe_own F__law_pairs (hr.mono (by decide)) takes0 (pa_cons (pv 1) (pa_cons pe_int pa_nil))))
      (pss_cons (ps_if (pt_cmpR (op_neD hu64) (pn_lst (pa_cons (pe_own F__law_heard (hr.mono (by decide)) takes0 (pa_cons (pv 7) pa_nil)) (pa_cons (pe_own F__law_heard (hr.mono (by decide)) takes0 (pa_cons (pe_own F__law_spoilt (hr.mono (by decide)) takes0 (pa_cons (pv 1) (pa_cons (pv 7) pa_nil))) pa_nil)) (pa_cons (pe_own F__law_heard (hr.mono (by decide)) takes0 (pa_cons pn_dict pa_nil)) pa_nil)))) (pe_op on_rep (pn_lst (pa_cons (pn_tup (pa_cons pe_str (pa_cons pe_non pa_nil))) pa_nil)) pe_int) (nomark _)) (pss_one (ps_ret pe_bl)) pss_nil)
      (pss_cons (ps_par (i := 8) (j := 9) rfl scLaw.nd rfl rfl (by decide) rfl rfl (pa_cons (pe_own F__law_pick (hr.mono (by decide)) takes0 (pa_cons (pv 1) (pa_cons (pe_own0 F__law_pool (hr.mono (by decide))) pa_nil))) (pa_cons (pe_own F__law_pick (hr.mono (by decide)) takes0 (pa_cons (pv 1) (pa_cons (pe_own0 F__law_pool (hr.mono (by decide))) pa_nil))) pa_nil)) rfl)
      (pss_cons (ps_if (pt_not (pt_val (pe_ownG F__law_right hgu (hr.mono (by decide)) (pa_cons (pe_makeW MK (FI k2 (by simp)) (hr.mono (by decide)) takes0 T.g (pk_cons (pv 8) (pk_cons (pv 9) pk_nil))) (pa_cons (pe_disp (pps_cons pe_str (pv 8) (pps_cons pe_str (pv 9) pps_nil)) rfl rfl (by simp) (by show 2 ≤ 15; decide)) pa_nil))))) (pss_one (ps_ret pe_bl)) pss_nil)
      (pss_cons (ps_if (pt_cmpR (op_ownNe M.I.hm EM.ne iE fE FE (hr.mono (by decide)) passL) (pe_makeW MK (FI k2r (by simp)) (hr.mono (by decide)) takes0 T.g (pk_cons (pv 9) (pk_cons (pv 8) pk_nil))) (pe_cmethT (pe_glob (v := .ref C) rfl T.g rfl) cr cm FO (hr.mono (by decide)) takes0 (pa_cons (pe_disp (pps_cons pe_str (pv 8) (pps_cons pe_str (pv 9) pps_nil)) rfl rfl (by simp) (by show 2 ≤ 15; decide)) pa_nil)) (nomark _)) (pss_one (ps_ret pe_bl)) pss_nil)
      (pss_cons (ps_set (i := 10) scLaw.nd rfl (by first | exact Or.inl rfl | exact Or.inr rfl) (pe_own F__law_pick (hr.mono (by decide)) takes0 (pa_cons (pv 1) (pa_cons (pn_lst (pa_cons pe_non (pa_cons pe_int (pa_cons pe_str (pa_cons pe_str (pa_cons (pn_lst (pa_cons pe_str pa_nil)) (pa_cons pn_dict pa_nil))))))) pa_nil))))
      (pss_one (ps_if (pt_cmpR (op_neD hu64) (pe_own F__law_named (hr.mono (by decide)) takes0 (pa_cons (pv 10) (pa_cons (pv 8) pa_nil))) (pn_lst (pa_cons (pn_tup (pa_cons pe_str (pa_cons pe_non pa_nil))) (pa_cons (pn_tup (pa_cons pe_str (pa_cons pe_non pa_nil))) (pa_cons (pn_tup (pa_cons pe_str (pa_cons pe_non pa_nil))) (pa_cons pe_non pa_nil))))) (nomark _)) (pss_one (ps_ret pe_bl)) pss_nil))))))))))))))))))
      (pss_cons (ps_for (passes_of rfl) rfl (pi_list (pn_lst (pa_cons pe_non (pa_cons pe_bl (pa_cons pe_int (pa_cons pe_str (pa_cons (pn_tup (pa_cons pe_str (pa_cons pe_str pa_nil))) (pa_cons (pn_lst (pa_cons (pn_tup (pa_cons pe_str (pa_cons pe_str pa_nil))) pa_nil)) (pa_cons (pn_lst pa_nil) (pa_cons (pn_tup pa_nil) pa_nil)))))))))) (pg_name (i := 11) scLaw.nd rfl (by first | exact Or.inl rfl | exact Or.inr rfl))
      (pss_one (ps_if (pt_cmpR (op_neD hu64) (pe_own F__law_heard (hr.mono (by decide)) takes0 (pa_cons (pv 11) pa_nil)) (pn_tup (pa_cons pe_str (pa_cons pe_non pa_nil))) (nomark _)) (pss_one (ps_ret pe_bl)) pss_nil)))
      (pss_cons (ps_set (i := 6) scLaw.nd rfl (by first | exact Or.inl rfl | exact Or.inr rfl) (pe_makeW MK (FI k10 (by simp)) (hr.mono (by decide)) takes0 T.g (pk_cons pe_str (pk_cons pe_str (pk_cons pe_str (pk_cons pe_str (pk_cons pe_str (pk_cons pe_str (pk_cons pe_str (pk_cons pe_str (pk_cons pe_str (pk_cons pe_str pk_nil))))))))))))
      (pss_cons (ps_if (PW.pt (pw_or (pt_cmpR (op_neD hu64) (pe_fld (pv 6) rfl) (pe_own0 F__law_ten (hr.mono (by decide))) (nomark _)) (pw_or1 (pt_cmpR (op_neD hu64) (pe_own0 F__law_eleven (hr.mono (by decide))) (pn_tup (pa_cons pe_str (pa_cons pe_non pa_nil))) (nomark _))))) (pss_one (ps_ret pe_bl)) pss_nil)
      (pss_one (ps_ret (pe_cmpR op_eq (pe_meth (pe_cmethT (pe_glob (v := .ref C) rfl T.g rfl) cr cm FO (hr.mono (by decide)) takes0 (pa_cons (pe_disp (pps_cons pe_str pe_str (pps_cons pe_str pe_str (pps_cons pe_str pe_str pps_nil))) rfl rfl (by simp) (by show 3 ≤ 15; decide)) pa_nil)) M.I.cl MR FR (hr.mono (by decide)) bR .nil passL (pa_cons pe_str pa_nil)) pe_str (nomark _))))))))), ?_⟩
    refine ⟨_, rfl, a, ns, rfl, hS, fun p l G1 hp1 s1 P1 => ?_⟩
    refine ⟨6, rfl, by decide, by decide, ?_⟩
    refine for_range (fun i σ' G' => ∃ (o2 o3 o4 o5 o6 o7 o8 o9 o10 : Option V), σ' = [some (.ref a), some (.ref p), o2, o3, o4, o5, o6, o7, o8, o9, o10, none] ∧ Pen G' p l (100 * i)) ⟨_, _, _, _, _, _, _, _, _, rfl, P1.mono (by omega)⟩ ?_ ?_
    · rintro i σ1 G2 hi ⟨o2, o3, o4, o5, o6, o7, o8, o9, o10, rfl, P2⟩
      have hi : i < 6 := hi
      -- the box
      refine ⟨_, rfl, _, rfl, p, l, _, 9, rfl, P2, by omega, by decide, by decide, fun d0 G3 d00 d01 kp3 P3 => ?_⟩
      refine ⟨_, _, rfl, rfl, by show 4 ≤ sizeLine; decide, fun q1 G4 n4 s4 l4 => ?_⟩
      have P4 := P3.same s4
      have q1p := P3.ne n4
      refine ⟨_, rfl, p, l, _, 4, rfl, P4, by omega, by decide, by decide, fun d1 G5 d10 d11 kp5 P5 => ?_⟩
      obtain ⟨v1, hv1, _, hm1⟩ := at_lt (xs := [V.int 1, .int 2, .int (1 + d0), .int 10]) d1 d10 d11
      obtain ⟨n, rfl, n1, n10⟩ : ∃ n : Nat, v1 = V.int (n : Int) ∧ 1 ≤ n ∧ n ≤ 10 := by
        simp only [List.mem_cons, List.not_mem_nil, or_false] at hm1
        rcases hm1 with rfl | rfl | rfl | rfl
        · exact ⟨1, rfl, by decide, by decide⟩
        · exact ⟨2, rfl, by decide, by decide⟩
        · exact ⟨(1 + d0).toNat, by rw [Int.toNat_of_nonneg (by omega)], by omega, by omega⟩
        · exact ⟨10, rfl, by decide, by decide⟩
      refine ⟨q1, _, d1, _, rfl, rfl, SqL.of (kp5 q1 _ q1p l4), hv1, ?_⟩
      refine ⟨p, l, _, n, rfl, P5, by omega, by omega, fun D1 ps G6 nD1 bx kp6 P6 hD6 => ?_⟩
      have D1p := P5.ne nD1
      have D1l := P5.nel nD1
      have pl := bx.len
      -- its repr
      refine ⟨_, rfl, D1, ps, rfl, hD6, bx.ok, by omega, ?_⟩
      -- Swap.of(box), twice
      obtain ⟨bk, bs, bw⟩ := box_facts (K := K) bx.okW (by omega) (by omega)
      refine ⟨rfl, _, rfl, .ref D1, rfl, .inr (.inr ⟨D1, _, rfl, hD6, fun e he G' _ => bk e he G', fun h => absurd h bs, fun _ h => absurd bw h, fun _ _ qs x1 G7 srt nx1 s7 at7 => ?_⟩)⟩
      have hD7 := s7 _ _ hD6
      refine ⟨_, rfl, x1, D1, ps, qs, rfl, at7, hD7, bx.ok, bx.nd, by omega, srt, fun G8 s8 => ⟨_, rfl, iteF ?_⟩⟩
      have hD8 := s8 _ _ hD7
      refine ⟨rfl, _, rfl, .ref D1, rfl, .inr (.inr ⟨D1, _, rfl, hD8, fun e he G' _ => bk e he G', fun h => absurd h bs, fun _ h => absurd bw h, fun _ _ qs2 x2 G9 srt2 nx2 s9 at9 => ?_⟩)⟩
      have hD9 := s9 _ _ hD8
      refine ⟨_, rfl, x2, D1, ps, qs2, rfl, at9, hD9, bx.ok, bx.nd, by omega, srt2, fun G10 s10 => ⟨_, rfl, iteF ?_⟩⟩
      have hD10 := s10 _ _ hD9
      have P10 := (((P6.same s7).same s8).same s9).same s10
      refine ⟨_, rfl, D1, ps, rfl, hD10, bx.ok, by omega, _, rfl, rfl, _, rfl, ite2 (fun h => ?_) (fun _ => ?_)⟩
      · simp at h
      -- the dict lent
      refine ⟨_, rfl, D1, _, rfl, hD10, fun D2 G11 nD2 s11 hL11 => ?_⟩
      have hD11 := s11 _ _ hD10
      have P11 := P10.same s11
      have D2p := P10.ne nD2
      have D2l := P10.nel nD2
      have D12 : D1 ≠ D2 := ne_of_none hD10 nD2
      refine ⟨rfl, _, rfl, .ref D2, rfl, .inr (.inr ⟨D2, _, rfl, hL11, fun e he G' _ => bk e he G', fun h => absurd h bs, fun _ h => absurd bw h, fun _ _ qs3 x3 G12 srt3 nx3 s12 at12 => ?_⟩)⟩
      have hD12 := s12 _ _ hD11
      have hL12 := s12 _ _ hL11
      have P12 := P11.same s12
      -- one pair more, one less
      have mic : micS ∉ poolS := by decide +kernel
      have mout : micS ∉ ps.map (·.1) := fun h => by
        obtain ⟨q, hq, e⟩ := List.mem_map.mp h
        exact mic (e ▸ (bx.mem q hq).1)
      refine ⟨_, rfl, D2, _, rfl, .inl ⟨_, .inr micS, hL12, rfl, by rw [List.length_map]; exact big_line' (by omega), rfl⟩, ?_⟩
      rw [putK_new _ (valV_none mout), show ps.map kvS ++ [(Sum.inr micS, V.str (Str.ofString "a"))] = (ps ++ [(micS, Str.ofString "a")]).map kvS by rw [List.map_append]; rfl]
      obtain ⟨q0, hq0⟩ : ∃ q, ps[0]? = some q := ⟨_, List.getElem?_eq_getElem (by omega)⟩
      have nd2 : ((ps ++ [(micS, Str.ofString "a")]).map (·.1)).Nodup := by
        rw [List.map_append]
        exact nd_snoc bx.nd mout
      refine ⟨_, rfl, D2, rfl, .inl ⟨_, .inl upd_same⟩, _, rfl, D1, _, rfl, .inl (by rw [upd_ne D12]; exact hD12), fun L nL => ?_⟩
      have LD2 : L ≠ D2 := fun e => by
        rw [e, upd_same] at nL
        cases nL
      refine ⟨L, _, 0, _, rfl, rfl, SqL.of upd_same, atI_nat (j := 0) (by rw [List.map_map, List.getElem?_map, hq0]; rfl), ?_⟩
      refine ⟨_, .inr q0.1, _, by rw [upd_ne LD2.symm, upd_same], rfl, valV_some nd2 q0 (List.mem_append_left _ (List.mem_of_getElem? hq0)), ?_⟩
      have kp13 : Kp D2 G12 (L2.upd (L2.upd (L2.upd G12 D2 (.dK ((ps ++ [(micS, Str.ofString "a")]).map kvS))) L (.lst (((ps.map kvS).map fun kv => kV kv.1)))) D2 (.dK (dropK ((ps ++ [(micS, Str.ofString "a")]).map kvS) (.inr q0.1)))) := fun b o ne e => by
        rw [upd_ne ne]
        refine Same.new nL _ _ ?_
        rw [upd_ne ne]
        exact e
      generalize L2.upd (L2.upd (L2.upd G12 D2 (.dK ((ps ++ [(micS, Str.ofString "a")]).map kvS))) L (.lst (((ps.map kvS).map fun kv => kV kv.1)))) D2 (.dK (dropK ((ps ++ [(micS, Str.ofString "a")]).map kvS) (.inr q0.1))) = G13 at kp13 ⊢
      have hD13 := kp13 _ _ D12 hD12
      have at13 := swapAt_kp hL12 kp13 at12
      have P13 := P12.kp2 kp13 D2p.symm D2l.symm
      refine ⟨_, rfl, _, rfl, x3, D1, ps, qs3, rfl, at13, hD13, bx.ok, bx.nd, by omega, srt3, fun G14 s14 => ⟨_, rfl, iteF ?_⟩⟩
      have hD14 := s14 _ _ hD13
      have P14 := P13.same s14
      -- one spoilt
      refine ⟨_, rfl, _, rfl, p, l, D1, _, n, ps, rfl, P14, by omega, D1p, hD14, bx, n1, by omega, fun a2 es G15 na2 hes hbad hit kp15 P15 ha2 => ?_⟩
      have hin : inSize es.length = true := by
        rw [hes]
        unfold inSize
        rw [decide_eq_true (by omega), decide_eq_true (by omega)]
        rfl
      refine ⟨.ref a2, rfl, .inl ⟨a2, es, rfl, ha2, hit, fun h => (nomatch hin.symm.trans h), fun _ => ⟨hbad, fun q2 G16 kp16 hq2 => ?_⟩⟩⟩
      refine ⟨by show 2 ≤ sizeLine; decide, fun q3 G17 n17 s17 e17 => ?_⟩
      refine ⟨hdD (some wordTxt), hdD (some wordTxt), .tup (SqT.of (s17 _ _ hq2)) (.cons (.str _) (.cons .non .nil)), .tup (SqT.of e17) (.cons (.str _) (.cons .non .nil)), by decide +kernel, by decide +kernel, _, rfl, ite2 (fun h => absurd h (by decide +kernel)) (fun _ => ?_)⟩
      have P17 := (P15.kp2 kp16 (P14.ne na2).symm (P14.nel na2).symm).same s17
      -- eleven pairs
      refine ⟨_, rfl, p, l, _, 11, rfl, P17, by omega, by decide, fun D3 ps3 G18 nD3 bx3 kp18 P18 hD18 => ?_⟩
      have D3p := P17.ne nD3
      have b11 : inSize ps3.length = false := by
        rw [bx3.len]
        rfl
      refine ⟨_, rfl, .ref D3, rfl, .inr (.inr ⟨D3, ps3, rfl, hD18, bx3.ok, b11, fun t1 G19 s19 e19 => ?_⟩)⟩
      have hD19 := s19 _ _ hD18
      have P19 := P18.same s19
      refine ⟨_, rfl, _, rfl, p, l, D3, _, 11, ps3, rfl, P19, by omega, D3p, hD19, bx3, by decide, by decide, fun a3 es3 G20 na3 hes3 hbad3 hit3 kp20 P20 ha3 => ?_⟩
      have e3 : inSize es3.length = false := by
        rw [hes3]
        rfl
      refine ⟨.ref a3, rfl, .inl ⟨a3, es3, rfl, ha3, hit3, fun _ t2 G21 s21 e21 => ?_, fun h => (nomatch e3.symm.trans h)⟩⟩
      refine fun d3 G22 n22 s22 e22 => ⟨.ref d3, rfl, .inr (.inr ⟨d3, [], rfl, e22, (fun p h => nomatch h), rfl, fun t3 G23 s23 e23 => ?_⟩)⟩
      refine ⟨by show 3 ≤ sizeLine; decide, fun La G24 n24 s24 e24 => ?_⟩
      refine ⟨by show 2 ≤ sizeLine; decide, fun t4 G25 n25 s25 e25 => ⟨by show 1 ≤ sizeLine; decide, fun Lb G26 n26 s26 e26 => ?_⟩⟩
      refine ⟨Lb, 3, _, rfl, rfl, e26, by decide, by decide, by show 3 ≤ sizeLine; decide, fun Lc G27 n27 s27 e27 => ?_⟩
      have t1p : t1 ≠ p := fun e => by
        obtain ⟨_, _, _, hp, _⟩ := P19
        rw [e, hp] at e19
        cases e19
      have u1 : G27 t1 = some (.tup [.str wordsS, .non]) := s27 _ _ (s26 _ _ (s25 _ _ (s24 _ _ (s23 _ _ (s22 _ _ (s21 _ _ (kp20 _ _ t1p e19)))))))
      have u2 : G27 t2 = some (.tup [.str wordsS, .non]) := s27 _ _ (s26 _ _ (s25 _ _ (s24 _ _ (s23 _ _ (s22 _ _ e21)))))
      have u3 : G27 t3 = some (.tup [.str wordsS, .non]) := s27 _ _ (s26 _ _ (s25 _ _ (s24 _ _ e23)))
      have u4 : G27 t4 = some (.tup [.str wordsS, .non]) := s27 _ _ (s26 _ _ e25)
      have dpW : ∀ {t : Addr}, G27 t = some (.tup [.str wordsS, .non]) → Dp K G27 (.ref t) (hdD (some wordsS)) := fun h => .tup (SqT.of h) (.cons (.str _) (.cons .non .nil))
      refine ⟨.list [hdD (some wordsS), hdD (some wordsS), hdD (some wordsS)], .list [hdD (some wordsS), hdD (some wordsS), hdD (some wordsS)], .lst (SqL.of (s27 _ _ (s26 _ _ (s25 _ _ e24)))) (.cons (dpW u1) (.cons (dpW u2) (.cons (dpW u3) .nil))), .lst (SqL.of e27) (.cons (dpW u4) (.cons (dpW u4) (.cons (dpW u4) .nil))), by decide +kernel, by decide +kernel, _, rfl, ite2 (fun h => absurd h (by decide +kernel)) (fun _ => ?_)⟩
      have P27 := ((((((P20.same s21).same s22).same s23).same s24).same s25).same s26).same s27
      clear u1 u2 u3 u4 dpW e19 e21 e22 e23 e24 e25 e26 e27 kp20 hL12 hL11 at12 at13 at9 at7
      -- two words
      refine ⟨_, rfl, rfl, fun m1 G28 n28 s28 e28 => ⟨p, l, m1, _, _, rfl, P27.same s28, by omega, P27.ne n28, SqL.of e28, by show 0 < 16; decide, by show 16 ≤ 1000000; decide, fun vy G29 hy kp29 P29 => ?_⟩⟩
      refine ⟨_, rfl, rfl, fun m2 G30 n30 s30 e30 => ⟨p, l, m2, _, _, rfl, P29.same s30, by omega, P29.ne n30, SqL.of e30, by show 0 < 16; decide, by show 16 ≤ 1000000; decide, fun vz G31 hz kp31 P31 => ⟨_, _, rfl, ?_⟩⟩⟩
      obtain ⟨y, hy', rfl⟩ := List.mem_map.mp hy
      obtain ⟨z, hz', rfl⟩ := List.mem_map.mp hz
      clear hy hz
      have hy := hy'
      have hz := hz'
      have ow := boxT_ok hy hz
      obtain ⟨ck, cs, cw⟩ := box_facts (K := K) ow (by show 1 ≤ 2; decide) (by show 2 ≤ 10; decide)
      refine ⟨_, rfl, _, rfl, rfl, mk_swap (C := C) (CE := CE) (ks := k2) (zs := [.str y, .str z]) (H2 := G31) rfl (fun e he G' _ => ck e he G') (fun h => absurd h cs) (fun _ h => absurd cw h) (fun _ _ qs4 x4 G32 srt4 nx4 s32 at32 => ?_)⟩
      refine fun p5 hp5 => ⟨_, rfl, _, rfl, upd_same, (boxT y z).map kvS, rfl, by show 2 ≤ 15; decide, ?_⟩
      rw [upd_upd, merge_box]
      have s33 : Same G32 (L2.upd G32 p5 (.dK ((boxT y z).map kvS))) := Same.new hp5
      refine ⟨x4, p5, boxT y z, qs4, rfl, at32.same s33, upd_same, fun q hq => (ow q hq).1, boxT_nd y z, by show 2 ≤ 11; decide, srt4, fun G34 s34 => ⟨_, rfl, iteF ?_⟩⟩
      have P34 := ((P31.same s32).same s33).same s34
      -- == of two
      obtain ⟨rk, rs_, rw_⟩ := box_facts (K := K) (ps := boxR y z) (boxR_ok ow) (by show 1 ≤ 2; decide) (by show 2 ≤ 10; decide)
      refine ⟨_, rfl, _, rfl, rfl, mk_swap (C := C) (CE := CE) (ks := k2r) (zs := [.str z, .str y]) (H2 := G34) rfl (fun e he G' _ => rk e he G') (fun h => absurd h rs_) (fun _ h => absurd rw_ h) (fun _ _ qs5 x5 G35 srt5 nx5 s35 at35 => ?_)⟩
      refine ⟨rfl, fun p6 hp6 => ⟨_, rfl, _, rfl, upd_same, (boxT y z).map kvS, rfl, by show 2 ≤ 15; decide, ?_⟩⟩
      rw [upd_upd, merge_box]
      have s36 : Same G35 (L2.upd G35 p6 (.dK ((boxT y z).map kvS))) := Same.new hp6
      refine ⟨.ref p6, rfl, .inr (.inr ⟨p6, _, rfl, upd_same, fun e he G' _ => ck e he G', fun h => absurd h cs, fun _ h => absurd cw h, fun _ _ qs6 x6 G37 srt6 nx6 s37 at37 => ?_⟩)⟩
      have srt5' : SortP ((boxT y z).map kvS) qs5 := ⟨srt5.1.trans (List.Perm.swap _ _ _), srt5.2⟩
      obtain rfl := sortP_uniq srt5' srt6
      have at35' := (at35.same s36).same s37
      obtain ⟨dx5, D5, i5, _⟩ := id at35'
      obtain ⟨dx6, D6, i6, _⟩ := id at37
      refine ⟨x5, dx5, _, .ref C, rfl, i5, M.I.ty i6, EM.nf, x5, x6, qs5, rfl, at35', at37, shaped_pairs fun q hq => ?_, true, rfl, _, rfl, iteF ?_⟩
      · have hq := (perm_of srt6.1).mem_iff.mp hq
        exact boxT_str hy hz q hq
      have P37 := ((P34.same s35).same s36).same s37
      -- what is no word
      refine ⟨_, rfl, by show 1 ≤ sizeLine; decide, fun m7 G38 n38 s38 e38 => fun d7 G39 n39 s39 e39 => ⟨by show 6 ≤ sizeLine; decide, fun m8 G40 n40 s40 e40 => ?_⟩⟩
      have P39 := (P37.same s38).same s39
      refine ⟨p, l, m8, _, _, rfl, P39.same s40, by omega, P39.ne n40, SqL.of e40, by show 0 < 6; decide, by show 6 ≤ 1000000; decide, fun vo G41 hvo kp41 P41 => ?_⟩
      have f7 := kp41 _ _ (P37.ne n38) (s40 _ _ (s39 _ _ e38))
      have f8 := kp41 _ _ ((P37.same s38).ne n39) (s40 _ _ e39)
      have hvo : (∀ G', Same G41 G' → Known K G' vo) ∧ wordV vo = false := by
        simp only [List.mem_cons, List.not_mem_nil, or_false] at hvo
        rcases hvo with rfl | rfl | rfl | rfl | rfl | rfl
        · exact ⟨fun G' _ => .inr ⟨(fun x e => nomatch e), _, .base .non, kit_ty (by decide +kernel)⟩, rfl⟩
        · exact ⟨fun G' _ => .inr ⟨(fun x e => nomatch e), _, .base (.int 5), kit_ty (by decide +kernel)⟩, rfl⟩
        · exact ⟨fun G' _ => .inl ⟨_, rfl, by decide +kernel⟩, by decide +kernel⟩
        · exact ⟨fun G' _ => .inl ⟨_, rfl, by decide +kernel⟩, by decide +kernel⟩
        · exact ⟨fun G' s => .inr ⟨(fun x e => nomatch e), _, .base (.lst (s _ _ f7)), kit_ty (by decide +kernel)⟩, rfl⟩
        · exact ⟨fun G' s => .inr ⟨(fun x e => nomatch e), _, .base (.dK (s _ _ f8)), kit_ty (by decide +kernel)⟩, rfl⟩
      obtain ⟨kvo, wvo⟩ := hvo
      refine ⟨_, rfl, _, rfl, vo, y, rfl, kvo, wvo, hy, fun L9 xs9 G42 s42 e42 hd42 => ?_⟩
      refine ⟨by show 2 ≤ sizeLine; decide, fun w1 G43 n43 s43 e43 => ⟨by show 2 ≤ sizeLine; decide, fun w2 G44 n44 s44 e44 => ⟨by show 2 ≤ sizeLine; decide, fun w3 G45 n45 s45 e45 => ⟨by show 4 ≤ sizeLine; decide, fun L10 G46 n46 s46 e46 => ?_⟩⟩⟩⟩
      have hd46 : Hd G46 xs9 namedR := hd42.same fun t zs h => s46 _ _ (s45 _ _ (s44 _ _ (s43 _ _ h)))
      have hd46' : Hd G46 [.ref w1, .ref w2, .ref w3, .non] namedR := .som (s46 _ _ (s45 _ _ (s44 _ _ e43))) (.som (s46 _ _ (s45 _ _ e44)) (.som (s46 _ _ e45) (.non .nil)))
      refine ⟨.list (namedR.map hdD), .list (namedR.map hdD), .lst (SqL.of (s46 _ _ (s45 _ _ (s44 _ _ (s43 _ _ e42))))) hd46.dp, .lst (SqL.of e46) hd46'.dp, by decide +kernel, by decide +kernel, _, rfl, ite2 (fun h => absurd h (by decide +kernel)) (fun _ => ?_)⟩
      exact ⟨_, _, _, _, _, _, _, _, _, rfl, (((((P41.same s42).same s43).same s44).same s45).same s46).mono (by omega)⟩
    · rintro σ1 G2 ⟨o2, o3, o4, o5, o6, o7, o8, o9, o10, rfl, P2⟩
      clear P2
      refine ⟨by show 2 ≤ sizeLine; decide, fun t1 G3 n3 s3 e3 => ⟨by show 2 ≤ sizeLine; decide, fun t2 G4 n4 s4 e4 => ⟨by show 1 ≤ sizeLine; decide, fun l1 G5 n5 s5 e5 => ⟨by show 0 ≤ sizeLine; decide, fun l2 G6 n6 s6 e6 => ⟨by show 0 ≤ sizeLine; decide, fun t3 G7 n7 s7 e7 => ⟨by show 8 ≤ sizeLine; decide, fun Lt G8 n8 s8 e8 => ?_⟩⟩⟩⟩⟩⟩
      have f1 := s8 _ _ (s7 _ _ (s6 _ _ (s5 _ _ (s4 _ _ e3))))
      have f2 := s8 _ _ (s7 _ _ (s6 _ _ e5))
      have f3 := s8 _ _ (s7 _ _ e6)
      have f4 := s8 _ _ e7
      have things : ∀ v ∈ [V.non, V.bl true, V.int 5, V.str (Str.ofString "a b"), V.ref t1, V.ref l1, V.ref l2, V.ref t3], ∃ ty, (∀ G', Same G8 G' → TyX K G' v ty) ∧ PySem.W.kitOne K ty (.type "dict") = some false := fun v hv => by
        simp only [List.mem_cons, List.not_mem_nil, or_false] at hv
        rcases hv with rfl | rfl | rfl | rfl | rfl | rfl | rfl | rfl
        · exact ⟨_, fun G' _ => .base .non, kit_ty (by decide +kernel)⟩
        · exact ⟨_, fun G' _ => .base (.bl true), kit_ty (by decide +kernel)⟩
        · exact ⟨_, fun G' _ => .base (.int 5), kit_ty (by decide +kernel)⟩
        · exact ⟨_, fun G' _ => .base (.str _), kit_ty (by decide +kernel)⟩
        · exact ⟨_, fun G' s => .base (.tup (s _ _ f1)), kit_ty (by decide +kernel)⟩
        · exact ⟨_, fun G' s => .base (.lst (s _ _ f2)), kit_ty (by decide +kernel)⟩
        · exact ⟨_, fun G' s => .base (.lst (s _ _ f3)), kit_ty (by decide +kernel)⟩
        · exact ⟨_, fun G' s => .base (.tup (s _ _ f4)), kit_ty (by decide +kernel)⟩
      refine ⟨Lt, rfl, ⟨_, SqL.of e8⟩, for_list (fun i σ' G' => ∃ o11 : Option V, σ' = [some (.ref a), some (.ref p), o2, o3, o4, o5, o6, o7, o8, o9, o10, o11] ∧ Same G8 G') ⟨none, rfl, Same.refl _⟩ (fun i σ' G' _ ⟨_, _, sm⟩ => SqL.of (sm _ _ e8)) ?_ ?_⟩
      · rintro i v σ1 G9 hv ⟨o11, rfl, sm⟩
        obtain ⟨ty, hty, hk⟩ := things v (List.mem_of_getElem? hv)
        refine ⟨_, rfl, v, rfl, .inr (.inl ⟨ty, hty G9 sm, hk, fun q G10 s10 e10 => ?_⟩)⟩
        refine ⟨by show 2 ≤ sizeLine; decide, fun q2 G11 n11 s11 e11 => ?_⟩
        refine ⟨hdD (some wordsS), hdD (some wordsS), .tup (SqT.of (s11 _ _ e10)) (.cons (.str _) (.cons .non .nil)), .tup (SqT.of e11) (.cons (.str _) (.cons .non .nil)), by decide +kernel, by decide +kernel, _, rfl, ite2 (fun h => absurd h (by decide +kernel)) (fun _ => ?_)⟩
        exact ⟨_, rfl, (sm.trans s10).trans s11⟩
      rintro σ1 G9 ⟨o11, rfl, sm⟩
      obtain ⟨ck, cs, cw⟩ := box_facts (K := K) ten_ok (by decide) (by decide)
      rw [← kw_kvS] at ck cs cw
      refine ⟨rfl, mk_swap (C := C) (CE := CE) (ks := k10) (zs := z10.map V.str) (H2 := G9) rfl (fun e he G' _ => ck e he G') (fun h => absurd h cs) (fun _ h => absurd cw h) (fun _ _ qs x G10 srt nx s10 at10 => ?_)⟩
      obtain rfl := sortP_uniq srt ten_sort
      obtain ⟨dx, Dq, i10, tq⟩ := id at10
      refine ⟨_, rfl, x, C, dx, _, _, rfl, i10, T.cl, T.n1, rfl, rfl, fun DT G11 s11 tT => ?_⟩
      refine ⟨pairsD tenP, pairsD tenP, tups_dp (tq.same fun b l e => s11 _ _ e), tups_dp tT, by decide +kernel, by decide +kernel, _, rfl, ite2 (fun h => absurd h (by decide +kernel)) (fun _ => ?_)⟩
      refine ⟨rfl, fun q G12 s12 e12 => ⟨by show 2 ≤ sizeLine; decide, fun q2 G13 n13 s13 e13 => ?_⟩⟩
      refine ⟨hdD (some wordsS), hdD (some wordsS), .tup (SqT.of (s13 _ _ e12)) (.cons (.str _) (.cons .non .nil)), .tup (SqT.of e13) (.cons (.str _) (.cons .non .nil)), by decide +kernel, by decide +kernel, _, rfl, ite2 (fun h => absurd h (by decide +kernel)) (fun _ => ?_)⟩
      obtain ⟨ak, as_, aw⟩ := box_facts (K := K) abc_ok (by decide) (by decide)
      refine ⟨rfl, fun p6 hp6 => ⟨upd_same, abcP.map kvS, rfl, by show 3 ≤ 15; decide, ?_⟩⟩
      rw [upd_upd, merge_abc]
      refine ⟨.ref p6, rfl, .inr (.inr ⟨p6, _, rfl, upd_same, fun e he G' _ => ak e he G', fun h => absurd h as_, fun _ h => absurd aw h, fun _ _ qs6 x6 G15 srt6 nx6 s15 at15 => ?_⟩)⟩
      obtain ⟨dx6, D6, i6, _⟩ := id at15
      refine ⟨x6, dx6, _, rfl, i6, rfl, x6, qs6, _, rfl, at15, fun y => rfl, ?_⟩
      rw [res_get (by decide +kernel) srt6, show (valV (abcP.map kvS) (.inr (Str.ofString "a") : Key)).getD (.str (Str.ofString "a")) = .str (Str.ofString "b") by decide +kernel]
      exact ⟨rfl, k G15⟩
end
end K04
set_option Elab.async false
set_option linter.all false
set_option maxRecDepth 100000
set_option maxHeartbeats 4000000
/-! Facts about own error classes, by one bit each. -/
namespace Qh
open PySem PySem.Spec PyProof.Rows L2
def oexB (K : PySem.W.Frag) (C : Addr) : Bool := match K.lookup C with
  | some ⟨.type "type", _, .cls cd, sl⟩ => (match cd.mro, sl.toList with
    | .ref C' :: bm, [_, _, _, _, some (.builtin n), _] => ((C' == C && n == "ValueError.__new__") && (!cd.hasDel && cd.hasDict)) && PySem.HandSPX.refsVE bm
    | _, _ => false)
  | _ => false
def oex2B (K : PySem.W.Frag) (C : Addr) : Bool := decide (PySem.W.findIn K (.ref C) "__setattr__" = some (some (.builtin "object.__setattr__"))) && (decide (PySem.W.typeIn K (.ref C) = some (.type "type")) && PySem.W.keepIn K (.ref C))
def ecB (K : PySem.W.Frag) (C : Addr) : Bool := decide (PySem.W.findIn K (.ref C) "__class__" = some (some (.builtin "object.__class__"))) && (decide (PySem.W.specialIn K (.builtin "object.__class__") "__get__" = some (some (.builtin "getset_descriptor.__get__"))) && (decide (PySem.W.takesIn K (.builtin "object.__class__") = some true) && decide (PySem.W.mroIn K C (.type "object") = some true)))
theorem oexB_ok {K : PySem.W.Frag} {C : Addr} (q : oexB K C = true) : ∃ nm q N bs bm sn sub ab col dd k0 k1 k2 k3 k5, K.lookup C = some (excClassObj nm q C N bs bm true sn sub ab col dd k0 k1 k2 k3 k5 "ValueError.__new__") ∧ PySem.HandSPX.refsVE bm = true := by
  unfold oexB at q
  split at q
  · rename_i dd cd sl ho
    split at q
    · rename_i C' bm k0 k1 k2 k3 n k5 hm hs
      simp only [Bool.and_eq_true, beq_iff_eq, Bool.not_eq_true'] at q
      obtain ⟨⟨⟨rfl, rfl⟩, hdel, hdct⟩, ht⟩ := q
      obtain ⟨nm, bs, mro, ns, qn, hd, sn, sub, ab, col, del⟩ := cd
      dsimp only at hm hdel hdct
      subst hm hdel hdct
      have hsl : sl = #[k0, k1, k2, k3, some (.builtin "ValueError.__new__"), k5] := by
        obtain ⟨l⟩ := sl
        simp only at hs
        rw [hs]
      subst hsl
      exact ⟨nm, qn, ns, bs, bm, sn, sub, ab, col, dd, k0, k1, k2, k3, k5, ho, ht⟩
    · cases q
  · cases q
theorem errC_of {K : PySem.W.Frag} {mg : Str → Option Value} {x : Str} {C : Addr} (g : mg x = some (.ref C)) (h1 : oexB K C = true) (h2 : oex2B K C = true) (h3 : xfB K C = true) (h4 : ecB K C = true) : ErrC K mg x C := by
  obtain ⟨a1, a2⟩ := Bool.and_eq_true_iff.mp h2
  obtain ⟨a2, a3⟩ := Bool.and_eq_true_iff.mp a2
  obtain ⟨b1, b2⟩ := Bool.and_eq_true_iff.mp h4
  obtain ⟨b2, b3⟩ := Bool.and_eq_true_iff.mp b2
  obtain ⟨b3, b4⟩ := Bool.and_eq_true_iff.mp b3
  have X := xfB_ok h3
  exact ⟨g, ⟨oexB_ok h1, of_decide_eq_true a1, X.exC, of_decide_eq_true a2, a3⟩, X, ⟨X.ga, X.gg, X.exC, X.hdC, of_decide_eq_true b1, of_decide_eq_true b2, of_decide_eq_true b3, of_decide_eq_true b4⟩⟩
/-- the module's names that are not bound by it -/
def freeB (K : PySem.W.Frag) (xs : List Str) : Bool := xs.all fun x => decide (PySem.W.nsIn K mainGlobals x = some none)
theorem freeB_ok {K : PySem.W.Frag} {h : Heap} {mg : Str → Option Value} (X : K.In h) (G : h.Ns mainGlobals mg) {xs : List Str} (c : freeB K xs = true) {x : Str} (hx : x ∈ xs) : mg x = none :=
  PySem.W.mg_none_of X G (of_decide_eq_true (List.all_eq_true.mp c x hx))
abbrev bltNames : List Str := ["len", "int", "abs", "list", "tuple", "range", "repr", "all", "any", "isinstance", "str", "bool", "dict", "set", "sorted", "enumerate", "zip", "max", "sum", "min", "reversed"]
theorem blt_of {K : PySem.W.Frag} {h : Heap} {mg : Str → Option Value} (X : K.In h) (G : h.Ns mainGlobals mg) (c : freeB K bltNames = true) : Blt mg := by
  have f := fun {x : Str} (hx : x ∈ bltNames) => freeB_ok X G c hx
  exact ⟨f (by decide +kernel), f (by decide +kernel), f (by decide +kernel), f (by decide +kernel), f (by decide +kernel), f (by decide +kernel), f (by decide +kernel), f (by decide +kernel), f (by decide +kernel), f (by decide +kernel), f (by decide +kernel), f (by decide +kernel), f (by decide +kernel), f (by decide +kernel), f (by decide +kernel), f (by decide +kernel), f (by decide +kernel), f (by decide +kernel), f (by decide +kernel), f (by decide +kernel), f (by decide +kernel)⟩
end Qh
set_option Elab.async false
set_option linter.all false
set_option maxRecDepth 100000
set_option maxHeartbeats 4000000
namespace K04
open PySem PySem.Spec PyProof.Rows L2 TL Qh Qi Ql Qp ClX Qst Qkw Qmd Qmk Qcm K04.Sw
def insB (K : PySem.W.Frag) (C : Addr) : Bool := ((PySem.W.plainGet K C Str.empty && PySem.W.hasDictIn K C) && (PySem.W.plainOver K C && decide (PySem.W.findIn K (.ref C) "__setattr__" = some (some (.builtin "object.__setattr__"))))) &&
  ((decide (PySem.W.findIn K (.ref C) "__class__" = some (some (.builtin "object.__class__"))) && decide (PySem.W.specialIn K (.builtin "object.__class__") "__get__" = some (some (.builtin "getset_descriptor.__get__")))) && (decide (PySem.W.takesIn K (.builtin "object.__class__") = some true) && decide (PySem.W.mroIn K C (.type "object") = some true)))
theorem insB_ok {K : PySem.W.Frag} {C : Addr} (h : insB K C = true) : InsT K C := by
  unfold insB at h
  simp only [Bool.and_eq_true, decide_eq_true_eq] at h
  obtain ⟨⟨⟨a1, a2⟩, a3, a4⟩, ⟨a5, a6⟩, a7, a8⟩ := h
  exact ⟨⟨a1, a2, a3, a4⟩, a5, a6, a7, a8⟩
def swapB (K : PySem.W.Frag) (C CT : Addr) : Bool := (decide (PySem.W.findIn K (.ref C) "pairs" = some none) && (PySem.W.readsIn K C (.type "type") && decide (PySem.W.specialIn K (.ref C) "__getattribute__" = some (some (.builtin "type.__getattribute__"))))) &&
  (((PySem.W.makesIn K C && PySem.W.keepIn K (.ref C)) && (decide (PySem.W.kitOne K (.ref C) (.ref C) = some true) && decide (PySem.W.kitOne K (.ref C) (.ref CT) = some true))) &&
  (decide (PySem.W.findIn K (.ref C) "__ne__" = some (some (.builtin "object.__ne__"))) && PySem.W.notFirst K C (.ref C)))
theorem swapB_ok {K : PySem.W.Frag} {C CT : Addr} (h : swapB K C CT = true) : NoAttr K C "pairs" ∧ PySem.W.readsIn K C (.type "type") = true ∧ PySem.W.specialIn K (.ref C) "__getattribute__" = some (some (.builtin "type.__getattribute__")) ∧
    PySem.W.makesIn K C = true ∧ PySem.W.keepIn K (.ref C) = true ∧ PySem.W.kitOne K (.ref C) (.ref C) = some true ∧ PySem.W.kitOne K (.ref C) (.ref CT) = some true ∧ PySem.W.findIn K (.ref C) "__ne__" = some (some (.builtin "object.__ne__")) ∧ PySem.W.notFirst K C (.ref C) = true := by
  unfold swapB at h
  simp only [Bool.and_eq_true, decide_eq_true_eq] at h
  obtain ⟨⟨a1, a3, a4⟩, ⟨⟨a5, a6⟩, a7, a8⟩, a9, a10⟩ := h
  exact ⟨a1, a3, a4, a5, a6, a7, a8, a9, a10⟩
def numB (K : PySem.W.Frag) (C : Addr) (x : Str) (n : Int) : Bool := match PySem.W.findCls K (.ref C) (.type "type") x with
  | some (.val (.int i _)) => i == n
  | _ => false
theorem numB_ok {K : PySem.W.Frag} {C : Addr} {x : Str} {n : Int} (h : numB K C x n = true) (rd : PySem.W.readsIn K C (.type "type") = true) (ga : PySem.W.specialIn K (.ref C) "__getattribute__" = some (some (.builtin "type.__getattribute__"))) : ∃ mc u, CRead K C mc ∧ CVal K C mc x (.int n) u := by
  unfold numB at h
  split at h
  · rename_i i t e
    have h := beq_iff_eq.mp h
    subst h
    exact ⟨.type "type", _, ⟨rd, ga⟩, ⟨e, ⟨t, rfl⟩⟩⟩
  · cases h
section
variable {P : Program} {w : World} {K : PySem.W.Frag} {mg : Str → Option Value} {base : Heap}
theorem kw_all {C CE f : Addr} {fd : FuncData} (F : Fun K "__init__" "Swap.__init__" K04.Sw.sInit f fd) (T : SwapC K mg C) (F_ascP : Ok P w K mg base "ascending_pairs" (defArgs K04.Sw.sAscP) ["pairs"] 3 (spAscP K w CE)) :
    ∀ ks ∈ kwLists, FnRW P w K mg base (L2.CX P w) 4 f ks (spKw ks (spInit K C CE)) := by
  intro ks hk
  rcases List.mem_cons.mp hk with rfl | hk
  · exact ok_init (by decide) (by decide) F T F_ascP fun _ _ _ _ _ _ u us hl => match us, hl with | [], _ => rfl
  rcases List.mem_cons.mp hk with rfl | hk
  · exact ok_init (by decide) (by decide) F T F_ascP fun _ _ _ _ _ _ u us hl => match us, hl with | [_], _ => rfl
  rcases List.mem_cons.mp hk with rfl | hk
  · exact ok_init (by decide) (by decide) F T F_ascP fun _ _ _ _ _ _ u us hl => match us, hl with | [_, _], _ => rfl
  rcases List.mem_cons.mp hk with rfl | hk
  · exact ok_init (by decide) (by decide) F T F_ascP fun _ _ _ _ _ _ u us hl => match us, hl with | [_, _], _ => rfl
  rcases List.mem_cons.mp hk with rfl | hk
  · exact ok_init (by decide +kernel) (by decide) F T F_ascP fun _ _ _ _ _ _ u us hl => match us, hl with | [_, _, _, _, _, _, _, _, _, _], _ => rfl
  · rw [List.mem_singleton.mp hk]
    exact ok_init (by decide +kernel) (by decide) F T F_ascP fun _ _ _ _ _ _ u us hl => match us, hl with | [_, _, _, _, _, _, _, _, _, _, _], _ => rfl
end
end K04
namespace K04
open PySem PySem.Spec PyProof.Rows L2 TL Qh Qi Ql Qp ClX Qst Qkw Qmd Qmk Qcm K04.Sw
theorem all_mk {l : PySem.W.OpenLaw} {w : World} {K : PySem.W.Frag} {h : Heap} {mg : Str → Option Value} {fa : Addr} (X : K.In h) (G : h.Ns mainGlobals mg) (hfa : mg "law" = some (.ref fa))
    {tA : _}
    {f1 : Addr} {oc1 kV1 dc1 pm1 cd1 ct1 : Value} {od1 an1 : Option Addr} {sl1 : Array (Option Value)}
    {f2 : Addr} {oc2 kV2 dc2 pm2 cd2 ct2 : Value} {od2 an2 : Option Addr} {sl2 : Array (Option Value)}
    {f3 : Addr} {oc3 kV3 dc3 pm3 cd3 ct3 : Value} {od3 an3 : Option Addr} {sl3 : Array (Option Value)}
    {f4 : Addr} {oc4 kV4 dc4 pm4 cd4 ct4 : Value} {od4 an4 : Option Addr} {sl4 : Array (Option Value)}
    {f5 : Addr} {oc5 kV5 dc5 pm5 cd5 ct5 : Value} {od5 an5 : Option Addr} {sl5 : Array (Option Value)}
    {f6 : Addr} {oc6 kV6 dc6 pm6 cd6 ct6 : Value} {od6 an6 : Option Addr} {sl6 : Array (Option Value)}
    {f7 : Addr} {oc7 kV7 dc7 pm7 cd7 ct7 : Value} {od7 an7 : Option Addr} {sl7 : Array (Option Value)}
    {f8 : Addr} {oc8 kV8 dc8 pm8 cd8 ct8 : Value} {od8 an8 : Option Addr} {sl8 : Array (Option Value)}
    {f9 : Addr} {oc9 kV9 dc9 pm9 cd9 ct9 : Value} {od9 an9 : Option Addr} {sl9 : Array (Option Value)}
    {f10 : Addr} {oc10 kV10 dc10 pm10 cd10 ct10 : Value} {od10 an10 : Option Addr} {sl10 : Array (Option Value)}
    {f11 : Addr} {oc11 kV11 dc11 pm11 cd11 ct11 : Value} {od11 an11 : Option Addr} {sl11 : Array (Option Value)}
    {f12 : Addr} {oc12 kV12 dc12 pm12 cd12 ct12 : Value} {od12 an12 : Option Addr} {sl12 : Array (Option Value)}
    {f13 : Addr} {oc13 kV13 dc13 pm13 cd13 ct13 : Value} {od13 an13 : Option Addr} {sl13 : Array (Option Value)}
    {f14 : Addr} {oc14 kV14 dc14 pm14 cd14 ct14 : Value} {od14 an14 : Option Addr} {sl14 : Array (Option Value)}
    {f15 : Addr} {oc15 kV15 dc15 pm15 cd15 ct15 : Value} {od15 an15 : Option Addr} {sl15 : Array (Option Value)}
    {CQ : Addr}
    {CE : Addr}
    {f16 : Addr} {oc16 kV16 dc16 pm16 cd16 ct16 : Value} {od16 an16 : Option Addr} {sl16 : Array (Option Value)}
    {CS : Addr}
    {CT : Addr}
    {f17 : Addr} {oc17 kV17 dc17 pm17 cd17 ct17 : Value} {od17 an17 : Option Addr} {sl17 : Array (Option Value)}
    {f18 : Addr} {oc18 kV18 dc18 pm18 cd18 ct18 : Value} {od18 an18 : Option Addr} {sl18 : Array (Option Value)}
    {f19 : Addr} {oc19 kV19 dc19 pm19 cd19 ct19 : Value} {od19 an19 : Option Addr} {sl19 : Array (Option Value)}
    {pc20 : Addr}
    {rc20 : List Value}
    {f20 : Addr} {oc20 kV20 dc20 pm20 cd20 ct20 : Value} {od20 an20 : Option Addr} {sl20 : Array (Option Value)}
    (a1 : PySem.W.nsIn K mainGlobals "is_letters" = some (some (.ref f1))) (l1 : K.lookup f1 = some ⟨oc1, od1, .func (PySem.W.fnOf "is_letters" "is_letters" (defArgs sLetters) (defBody sLetters) (defScope sLetters) .none kV1 dc1 pm1 an1 cd1 ct1), sl1⟩) (c1 : PySem.W.codeIn K cd1 "is_letters" = true) (k1 : PySem.W.keepIn K (.ref f1) = true)
    (a2 : PySem.W.nsIn K mainGlobals "is_word" = some (some (.ref f2))) (l2 : K.lookup f2 = some ⟨oc2, od2, .func (PySem.W.fnOf "is_word" "is_word" (defArgs sIsWord) (defBody sIsWord) (defScope sIsWord) .none kV2 dc2 pm2 an2 cd2 ct2), sl2⟩) (c2 : PySem.W.codeIn K cd2 "is_word" = true) (k2 : PySem.W.keepIn K (.ref f2) = true)
    (a3 : PySem.W.nsIn K mainGlobals "ascending_pairs" = some (some (.ref f3))) (l3 : K.lookup f3 = some ⟨oc3, od3, .func (PySem.W.fnOf "ascending_pairs" "ascending_pairs" (defArgs K04.Sw.sAscP) (defBody K04.Sw.sAscP) (defScope K04.Sw.sAscP) .none kV3 dc3 pm3 an3 cd3 ct3), sl3⟩) (c3 : PySem.W.codeIn K cd3 "ascending_pairs" = true) (k3 : PySem.W.keepIn K (.ref f3) = true)
    (a4 : PySem.W.nsIn K mainGlobals "_law_pen" = some (some (.ref f4))) (l4 : K.lookup f4 = some ⟨oc4, od4, .func (PySem.W.fnOf "_law_pen" "_law_pen" (defArgs sPen) (defBody sPen) (defScope sPen) .none kV4 dc4 pm4 an4 cd4 ct4), sl4⟩) (c4 : PySem.W.codeIn K cd4 "_law_pen" = true) (k4 : PySem.W.keepIn K (.ref f4) = true)
    (a5 : PySem.W.nsIn K mainGlobals "_law_draw" = some (some (.ref f5))) (l5 : K.lookup f5 = some ⟨oc5, od5, .func (PySem.W.fnOf "_law_draw" "_law_draw" (defArgs sDraw) (defBody sDraw) (defScope sDraw) .none kV5 dc5 pm5 an5 cd5 ct5), sl5⟩) (c5 : PySem.W.codeIn K cd5 "_law_draw" = true) (k5 : PySem.W.keepIn K (.ref f5) = true)
    (a6 : PySem.W.nsIn K mainGlobals "_law_pick" = some (some (.ref f6))) (l6 : K.lookup f6 = some ⟨oc6, od6, .func (PySem.W.fnOf "_law_pick" "_law_pick" (defArgs sPick) (defBody sPick) (defScope sPick) .none kV6 dc6 pm6 an6 cd6 ct6), sl6⟩) (c6 : PySem.W.codeIn K cd6 "_law_pick" = true) (k6 : PySem.W.keepIn K (.ref f6) = true)
    (a7 : PySem.W.nsIn K mainGlobals "_law_pool" = some (some (.ref f7))) (l7 : K.lookup f7 = some ⟨oc7, od7, .func (PySem.W.fnOf "_law_pool" "_law_pool" (defArgs sPool) (defBody sPool) (defScope sPool) .none kV7 dc7 pm7 an7 cd7 ct7), sl7⟩) (c7 : PySem.W.codeIn K cd7 "_law_pool" = true) (k7 : PySem.W.keepIn K (.ref f7) = true)
    (a8 : PySem.W.nsIn K mainGlobals "_law_pairs" = some (some (.ref f8))) (l8 : K.lookup f8 = some ⟨oc8, od8, .func (PySem.W.fnOf "_law_pairs" "_law_pairs" (defArgs sPairs) (defBody sPairs) (defScope sPairs) .none kV8 dc8 pm8 an8 cd8 ct8), sl8⟩) (c8 : PySem.W.codeIn K cd8 "_law_pairs" = true) (k8 : PySem.W.keepIn K (.ref f8) = true)
    (a9 : PySem.W.nsIn K mainGlobals "_law_heard" = some (some (.ref f9))) (l9 : K.lookup f9 = some ⟨oc9, od9, .func (PySem.W.fnOf "_law_heard" "_law_heard" (defArgs sHeard) (defBody sHeard) (defScope sHeard) .none kV9 dc9 pm9 an9 cd9 ct9), sl9⟩) (c9 : PySem.W.codeIn K cd9 "_law_heard" = true) (k9 : PySem.W.keepIn K (.ref f9) = true)
    (a10 : PySem.W.nsIn K mainGlobals "_law_named_heard" = some (some (.ref f10))) (l10 : K.lookup f10 = some ⟨oc10, od10, .func (PySem.W.fnOf "_law_named_heard" "_law_named_heard" (defArgs sNamed) (defBody sNamed) (defScope sNamed) .none kV10 dc10 pm10 an10 cd10 ct10), sl10⟩) (c10 : PySem.W.codeIn K cd10 "_law_named_heard" = true) (k10 : PySem.W.keepIn K (.ref f10) = true)
    (a11 : PySem.W.nsIn K mainGlobals "_law_spoilt" = some (some (.ref f11))) (l11 : K.lookup f11 = some ⟨oc11, od11, .func (PySem.W.fnOf "_law_spoilt" "_law_spoilt" (defArgs sSpoilt) (defBody sSpoilt) (defScope sSpoilt) .none kV11 dc11 pm11 an11 cd11 ct11), sl11⟩) (c11 : PySem.W.codeIn K cd11 "_law_spoilt" = true) (k11 : PySem.W.keepIn K (.ref f11) = true)
    (a12 : PySem.W.nsIn K mainGlobals "_law_eleven_heard" = some (some (.ref f12))) (l12 : K.lookup f12 = some ⟨oc12, od12, .func (PySem.W.fnOf "_law_eleven_heard" "_law_eleven_heard" (defArgs sEleven) (defBody sEleven) (defScope sEleven) .none kV12 dc12 pm12 an12 cd12 ct12), sl12⟩) (c12 : PySem.W.codeIn K cd12 "_law_eleven_heard" = true) (k12 : PySem.W.keepIn K (.ref f12) = true)
    (a13 : PySem.W.nsIn K mainGlobals "_law_ten" = some (some (.ref f13))) (l13 : K.lookup f13 = some ⟨oc13, od13, .func (PySem.W.fnOf "_law_ten" "_law_ten" (defArgs sTen) (defBody sTen) (defScope sTen) .none kV13 dc13 pm13 an13 cd13 ct13), sl13⟩) (c13 : PySem.W.codeIn K cd13 "_law_ten" = true) (k13 : PySem.W.keepIn K (.ref f13) = true)
    (a14 : PySem.W.nsIn K mainGlobals "_law_right" = some (some (.ref f14))) (l14 : K.lookup f14 = some ⟨oc14, od14, .func (PySem.W.fnOf "_law_right" "_law_right" (defArgs sRight) (defBody sRight) (defScope sRight) .none kV14 dc14 pm14 an14 cd14 ct14), sl14⟩) (c14 : PySem.W.codeIn K cd14 "_law_right" = true) (k14 : PySem.W.keepIn K (.ref f14) = true)
    (a15 : PySem.W.nsIn K mainGlobals "law" = some (some (.ref f15))) (l15 : K.lookup f15 = some ⟨oc15, od15, .func (PySem.W.fnOf "law" "law" (defArgs sLaw) (defBody sLaw) (defScope sLaw) .none kV15 dc15 pm15 an15 cd15 ct15), sl15⟩) (c15 : PySem.W.codeIn K cd15 "law" = true) (k15 : PySem.W.keepIn K (.ref f15) = true)
    (gCQ : PySem.W.nsIn K mainGlobals "QuoteError" = some (some (.ref CQ)))
    (gCE : PySem.W.nsIn K mainGlobals "InvalidStep" = some (some (.ref CE)))
    (a16 : PySem.W.findIn K (.ref CE) "__init__" = some (some (.ref f16))) (t16 : PySem.W.typeIn K (.ref f16) = some (.type "function")) (l16 : K.lookup f16 = some ⟨oc16, od16, .func (PySem.W.fnOf "__init__" "InvalidStep.__init__" (defArgs sErrInit) (defBody sErrInit) (defScope sErrInit) .none kV16 dc16 pm16 an16 cd16 ct16), sl16⟩) (c16 : PySem.W.codeIn K cd16 "InvalidStep.__init__" = true) (k16 : PySem.W.keepIn K (.ref f16) = true)
    (x1CE : oexB K CE = true)
    (x2CE : oex2B K CE = true)
    (x3CE : xfB K CE = true)
    (x4CE : ecB K CE = true)
    (gCS : PySem.W.nsIn K mainGlobals "Swap" = some (some (.ref CS)))
    (gCT : PySem.W.nsIn K mainGlobals "Step" = some (some (.ref CT)))
    (a17 : PySem.W.findIn K (.ref CS) "__init__" = some (some (.ref f17))) (t17 : PySem.W.typeIn K (.ref f17) = some (.type "function")) (l17 : K.lookup f17 = some ⟨oc17, od17, .func (PySem.W.fnOf "__init__" "Swap.__init__" (defArgs K04.Sw.sInit) (defBody K04.Sw.sInit) (defScope K04.Sw.sInit) .none kV17 dc17 pm17 an17 cd17 ct17), sl17⟩) (c17 : PySem.W.codeIn K cd17 "Swap.__init__" = true) (k17 : PySem.W.keepIn K (.ref f17) = true)
    (a18 : PySem.W.findIn K (.ref CS) "result" = some (some (.ref f18))) (t18 : PySem.W.typeIn K (.ref f18) = some (.type "function")) (l18 : K.lookup f18 = some ⟨oc18, od18, .func (PySem.W.fnOf "result" "Swap.result" (defArgs K04.Sw.sResult) (defBody K04.Sw.sResult) (defScope K04.Sw.sResult) .none kV18 dc18 pm18 an18 cd18 ct18), sl18⟩) (c18 : PySem.W.codeIn K cd18 "Swap.result" = true) (k18 : PySem.W.keepIn K (.ref f18) = true)
    (a19 : PySem.W.findIn K (.ref CS) "__eq__" = some (some (.ref f19))) (t19 : PySem.W.typeIn K (.ref f19) = some (.type "function")) (l19 : K.lookup f19 = some ⟨oc19, od19, .func (PySem.W.fnOf "__eq__" "Swap.__eq__" (defArgs sEq) (defBody sEq) (defScope sEq) .none kV19 dc19 pm19 an19 cd19 ct19), sl19⟩) (c19 : PySem.W.codeIn K cd19 "Swap.__eq__" = true) (k19 : PySem.W.keepIn K (.ref f19) = true)
    (cg20 : PySem.W.findCls K (.ref CS) (.type "type") "of" = some (.get (.builtin "classmethod.__get__") (.ref pc20) .none (.ref CS)))
    (a20 : PySem.W.recIn K pc20 "classmethod" = some (.ref f20 :: rc20)) (l20 : K.lookup f20 = some ⟨oc20, od20, .func (PySem.W.fnOf "of" "Swap.of" (defArgs K04.Sw.sOf) (defBody K04.Sw.sOf) (defScope K04.Sw.sOf) .none kV20 dc20 pm20 an20 cd20 ct20), sl20⟩) (c20 : PySem.W.codeIn K cd20 "Swap.of" = true) (k20 : PySem.W.keepIn K (.ref f20) = true)
    (fi20 : PySem.W.fnIn K f20 = true)
    (fr : freeB K bltNames = true)
    (ex : PySem.W.exmOne K (.ref CE) (.ref CQ) = some true)
    (kEE : PySem.W.kitOne K (.ref CE) (.ref CE) = some true)
    (exE : PySem.W.exmOne K (.ref CE) (.ref CE) = some true)
    (i1 : insB K CS = true)
    (s1 : swapB K CS CT = true)
    (m1 : numB K CS "MOST" 10 = true)
    (gA : PySem.W.nsIn K mainGlobals "MOST_LETTERS" = some (some (.int 10 tA)))
    (no1 : PySem.W.findIn K (.ref CE) "reason" = some none)
    (no2 : PySem.W.findIn K (.ref CE) "index" = some none) :
    ∃ fd : FuncData, (∀ (s : Shared) (v : Value), BindsTo s fd ⟨[v], []⟩ [("_law_script", v)]) ∧ ∀ base : Heap, K.In base → base.Ns mainGlobals mg → FnG l.prog w K mg base (L2.CX l.prog w) 8 fa fd ["_law_script"] (spLaw K) := by
  have e := hfa.symm.trans (PySem.W.mg_of X G a15)
  cases e
  have Fn1 : Fun K "is_letters" "is_letters" sLetters f1 _ := fun_mk (st := sLetters) l1 c1 k1
  have D_is_letters : DefIn K mg "is_letters" sLetters := ⟨⟨f1, _, Fn1, PySem.W.mg_of X G a1⟩⟩
  have Fn2 : Fun K "is_word" "is_word" sIsWord f2 _ := fun_mk (st := sIsWord) l2 c2 k2
  have D_is_word : DefIn K mg "is_word" sIsWord := ⟨⟨f2, _, Fn2, PySem.W.mg_of X G a2⟩⟩
  have Fn3 : Fun K "ascending_pairs" "ascending_pairs" K04.Sw.sAscP f3 _ := fun_mk (st := K04.Sw.sAscP) l3 c3 k3
  have D_ascending_pairs : DefIn K mg "ascending_pairs" K04.Sw.sAscP := ⟨⟨f3, _, Fn3, PySem.W.mg_of X G a3⟩⟩
  have Fn4 : Fun K "_law_pen" "_law_pen" sPen f4 _ := fun_mk (st := sPen) l4 c4 k4
  have D__law_pen : DefIn K mg "_law_pen" sPen := ⟨⟨f4, _, Fn4, PySem.W.mg_of X G a4⟩⟩
  have Fn5 : Fun K "_law_draw" "_law_draw" sDraw f5 _ := fun_mk (st := sDraw) l5 c5 k5
  have D__law_draw : DefIn K mg "_law_draw" sDraw := ⟨⟨f5, _, Fn5, PySem.W.mg_of X G a5⟩⟩
  have Fn6 : Fun K "_law_pick" "_law_pick" sPick f6 _ := fun_mk (st := sPick) l6 c6 k6
  have D__law_pick : DefIn K mg "_law_pick" sPick := ⟨⟨f6, _, Fn6, PySem.W.mg_of X G a6⟩⟩
  have Fn7 : Fun K "_law_pool" "_law_pool" sPool f7 _ := fun_mk (st := sPool) l7 c7 k7
  have D__law_pool : DefIn K mg "_law_pool" sPool := ⟨⟨f7, _, Fn7, PySem.W.mg_of X G a7⟩⟩
  have Fn8 : Fun K "_law_pairs" "_law_pairs" sPairs f8 _ := fun_mk (st := sPairs) l8 c8 k8
  have D__law_pairs : DefIn K mg "_law_pairs" sPairs := ⟨⟨f8, _, Fn8, PySem.W.mg_of X G a8⟩⟩
  have Fn9 : Fun K "_law_heard" "_law_heard" sHeard f9 _ := fun_mk (st := sHeard) l9 c9 k9
  have D__law_heard : DefIn K mg "_law_heard" sHeard := ⟨⟨f9, _, Fn9, PySem.W.mg_of X G a9⟩⟩
  have Fn10 : Fun K "_law_named_heard" "_law_named_heard" sNamed f10 _ := fun_mk (st := sNamed) l10 c10 k10
  have D__law_named_heard : DefIn K mg "_law_named_heard" sNamed := ⟨⟨f10, _, Fn10, PySem.W.mg_of X G a10⟩⟩
  have Fn11 : Fun K "_law_spoilt" "_law_spoilt" sSpoilt f11 _ := fun_mk (st := sSpoilt) l11 c11 k11
  have D__law_spoilt : DefIn K mg "_law_spoilt" sSpoilt := ⟨⟨f11, _, Fn11, PySem.W.mg_of X G a11⟩⟩
  have Fn12 : Fun K "_law_eleven_heard" "_law_eleven_heard" sEleven f12 _ := fun_mk (st := sEleven) l12 c12 k12
  have D__law_eleven_heard : DefIn K mg "_law_eleven_heard" sEleven := ⟨⟨f12, _, Fn12, PySem.W.mg_of X G a12⟩⟩
  have Fn13 : Fun K "_law_ten" "_law_ten" sTen f13 _ := fun_mk (st := sTen) l13 c13 k13
  have D__law_ten : DefIn K mg "_law_ten" sTen := ⟨⟨f13, _, Fn13, PySem.W.mg_of X G a13⟩⟩
  have Fn14 : Fun K "_law_right" "_law_right" sRight f14 _ := fun_mk (st := sRight) l14 c14 k14
  have D__law_right : DefIn K mg "_law_right" sRight := ⟨⟨f14, _, Fn14, PySem.W.mg_of X G a14⟩⟩
  have Fn15 : Fun K "law" "law" sLaw fa _ := fun_mk (st := sLaw) l15 c15 k15
  have mCQ : mg "QuoteError" = some (.ref CQ) := PySem.W.mg_of X G gCQ
  have mCE : mg "InvalidStep" = some (.ref CE) := PySem.W.mg_of X G gCE
  have Fn16 : Fun K "__init__" "InvalidStep.__init__" sErrInit f16 _ := fun_mk (st := sErrInit) l16 c16 k16
  have biCE : Binds K _ ["self", "reason", "index"] [] := Fn16.binds (ps := ["self", "reason", "index"]) fun _ _ _ _ _ _ us hl => match us, hl with | [_, _, _], _ => rfl
  have ECE : ErrC K mg "InvalidStep" CE := errC_of mCE x1CE x2CE x3CE x4CE
  have mCS : mg "Swap" = some (.ref CS) := PySem.W.mg_of X G gCS
  have mCT : mg "Step" = some (.ref CT) := PySem.W.mg_of X G gCT
  have Fn17 : Fun K "__init__" "Swap.__init__" K04.Sw.sInit f17 _ := fun_mk (st := K04.Sw.sInit) l17 c17 k17
  have Fn18 : Fun K "result" "Swap.result" K04.Sw.sResult f18 _ := fun_mk (st := K04.Sw.sResult) l18 c18 k18
  have bm18 : Binds K _ ["self", "value"] [] := Fn18.binds (ps := ["self", "value"]) fun _ _ _ _ _ _ us hl => match us, hl with | [_, _], _ => rfl
  have Fn19 : Fun K "__eq__" "Swap.__eq__" sEq f19 _ := fun_mk (st := sEq) l19 c19 k19
  have bm19 : Binds K _ ["self", "other"] [] := Fn19.binds (ps := ["self", "other"]) fun _ _ _ _ _ _ us hl => match us, hl with | [_, _], _ => rfl
  have Fn20 : Fun K "of" "Swap.of" K04.Sw.sOf f20 _ := fun_mk (st := K04.Sw.sOf) l20 c20 k20
  have bm20 : Binds K _ ["cls", "pairs"] [] := Fn20.binds (ps := ["cls", "pairs"]) fun _ _ _ _ _ _ us hl => match us, hl with | [_, _], _ => rfl
  have B : Blt mg := blt_of X G fr
  refine ⟨PySem.W.fnOf "law" "law" (defArgs sLaw) (defBody sLaw) (defScope sLaw) .none kV15 dc15 pm15 an15 cd15 ct15, fun s v => .of_eq rfl, fun base _ _ => ?_⟩

  have hA : ∃ t, mg "MOST_LETTERS" = some (.int 10 t) := ⟨_, PySem.W.mg_of X G gA⟩
  have no : ∀ x ∈ (["reason", "index"] : List Str), PySem.W.findIn K (.ref CE) x = some none := fun x hx => by
    rcases List.mem_cons.mp hx with rfl | hx
    · exact no1
    · rw [List.mem_singleton.mp hx]
      exact no2
  have TE : Qi.ErrN l.prog w K mg base "InvalidStep" ["reason", "index"] CE := ⟨ECE, no, ⟨_, _, a16, t16, biCE, ok_errInit Fn16 ECE.o no⟩⟩
  have I1 := insB_ok i1
  obtain ⟨z1, z3, z4, z5, z6, z7, z8, z9, z10⟩ := swapB_ok s1
  have T : K04.Sw.SwapC K mg CS := ⟨mCS, I1.cl, z1, numB_ok m1 z3 z4⟩
  have letters := ok_letters (P := l.prog) (w := w) (base := base) D_is_letters B
  have isWord := ok_isWord D_is_word hA letters
  have asc := K04.Sw.ok_ascP D_ascending_pairs B T TE isWord
  have pen := ok_pen (P := l.prog) (w := w) (base := base) D__law_pen B
  have draw := ok_draw (P := l.prog) (w := w) (base := base) D__law_draw B
  have pick := ok_pick D__law_pick B draw
  have MK : Mk K CS f17 := ⟨z5, a17, beq_iff_eq.mpr t17, z6⟩
  have initA := K04.Sw.ok_initA Fn17 T asc
  have raw : ∀ {k : Nat} {f : Addr} {fd : FuncData} {ps : List Str} {sp : Sp}, FnOk l.prog w K mg base (L2.CX l.prog w) k f fd ps sp → Binds K fd ps [] → FnR l.prog w K mg base (L2.CX l.prog w) k f sp := fun F hb => (F.raw hb .nil).imp fun vs H Q E h => by
    rw [List.append_nil]
    exact h
  have FO := K04.Sw.ok_of Fn20 T MK asc initA
  have OM : OfM l.prog w K mg base CS CE := ⟨⟨.type "type", _, _, _, ⟨z3, z4⟩, ⟨cg20, ⟨_, a20⟩, fi20⟩, raw FO bm20, FO, fun u ws hl => match ws, hl with | [_], _ => rfl⟩⟩
  have KM : KwM l.prog w K mg base CS CE := ⟨⟨f17, MK, kw_all Fn17 T asc⟩⟩
  have FR := K04.Sw.ok_result (P := l.prog) (w := w) (base := base) Fn18 T
  have FE := ok_eqW (P := l.prog) (w := w) (base := base) Fn19 B T I1 z7
  have M : SwapM l.prog w K mg base CS CT := ⟨T, I1, ⟨_, _, ⟨a18, beq_iff_eq.mpr t18, k18⟩, bm18, (fun u ws hl => match ws, hl with | [_], _ => rfl), FR⟩, z8, mCT⟩
  have EM : EqW l.prog w K mg base CS := ⟨z9, ⟨_, a19, beq_iff_eq.mpr t19, raw FE bm19⟩, z10⟩
  have pool := ok_pool (P := l.prog) (w := w) (base := base) D__law_pool
  have pairs := ok_pairs D__law_pairs B draw pick pool
  have heard := ok_heard D__law_heard B T TE mCQ ex kEE OM
  have spoilt := ok_spoilt (w := w) D__law_spoilt B draw pick
  have named := ok_named D__law_named_heard B T TE exE KM
  have eleven := ok_eleven D__law_eleven_heard B T TE exE KM
  have ten := ok_ten (P := l.prog) (w := w) (base := base) D__law_ten B
  have right := ok_right D__law_right B M pool
  exact ok_law Fn15 B M OM KM EM pen draw pick pool pairs heard spoilt named eleven ten right
theorem walk {l : PySem.W.OpenLaw} {q : Program} {loose : List Str} {XP : (Str → Option Value) → Heap → Prop} {YP : World → Heap → Prop} {d : DefRec} {K : Params → PySem.W.Frag} (hn : l.most = some 63) (hdf : d.params.defaults = [])
    (hY : ∀ (w : World) (h : Heap), YP w h → (K w.params).In h)
    (F : ∀ (w : World) (mg : Str → Option Value) (fa : Addr) (h : Heap), (K w.params).In h → h.Ns mainGlobals mg → mg d.name = some (.ref fa) →
      ∃ fd : FuncData, (∀ (s : Shared) (u : Value), BindsTo s fd ⟨[u], []⟩ [("_law_script", u)]) ∧ ∀ base : Heap, (K w.params).In base → base.Ns mainGlobals mg → FnG l.prog w (K w.params) mg base (L2.CX l.prog w) 8 fa fd ["_law_script"] (spLaw (K w.params))) :
    PySem.W.WalkO q loose XP YP l.row.toRowW d [] (fun f vs => PySem.call f vs) :=
  Qh.walk_ofG (n := 63) (k := 8) (x := "_law_script") (CX := fun w => L2.CX l.prog w) (sp := fun w => spLaw (K w.params)) hn (by decide) hdf ⟨rfl, by decide, by decide⟩ hY F (fun _ _ a ns _ _ hS => ⟨a, ns, rfl, hS, fun _ => rfl⟩) fun _ _ _ _ _ h => by
    obtain ⟨_, _, _, _, _, _, _, _, _, _, _, _, z⟩ := h
    exact z.elim
end K04
open PySem PySem.W PyProof.Rows
set_option maxRecDepth 100000 in
set_option maxHeartbeats 0 in
theorem PySem.Challenge.cw_quotehome_k04_swaps_holds : PySem.Challenge.rw_quotehome_k04_swaps.Holds := by
  w_on; o_law; k_head; (case hw => w_witness2)
  k_fill
  refine K04.walk (l := PySem.Challenge.rw_quotehome_k04_swaps) rfl rfl (fun w h Y => PySem.W.kIn_of Y) ?F
  case F =>
    intro w mg fa h KX G hmg
    refine' K04.all_mk KX G hmg ?a1 ?l1 ?c1 ?k1 ?a2 ?l2 ?c2 ?k2 ?a3 ?l3 ?c3 ?k3 ?a4 ?l4 ?c4 ?k4 ?a5 ?l5 ?c5 ?k5 ?a6 ?l6 ?c6 ?k6 ?a7 ?l7 ?c7 ?k7 ?a8 ?l8 ?c8 ?k8 ?a9 ?l9 ?c9 ?k9 ?a10 ?l10 ?c10 ?k10 ?a11 ?l11 ?c11 ?k11 ?a12 ?l12 ?c12 ?k12 ?a13 ?l13 ?c13 ?k13 ?a14 ?l14 ?c14 ?k14 ?a15 ?l15 ?c15 ?k15 ?gCQ ?gCE ?a16 ?t16 ?l16 ?c16 ?k16 ?x1CE ?x2CE ?x3CE ?x4CE ?gCS ?gCT ?a17 ?t17 ?l17 ?c17 ?k17 ?a18 ?t18 ?l18 ?c18 ?k18 ?a19 ?t19 ?l19 ?c19 ?k19 ?cg20 ?a20 ?l20 ?c20 ?k20 ?fi20 ?fr ?ex ?kEE ?exE ?i1 ?s1 ?m1 ?gA ?no1 ?no2
    (case a1 => k_is)
    (case l1 => k_is)
    (case c1 => k_is)
    (case k1 => k_is)
    (case a2 => k_is)
    (case l2 => k_is)
    (case c2 => k_is)
    (case k2 => k_is)
    (case a3 => k_is)
    (case l3 => k_is)
    (case c3 => k_is)
    (case k3 => k_is)
    (case a4 => k_is)
    (case l4 => k_is)
    (case c4 => k_is)
    (case k4 => k_is)
    (case a5 => k_is)
    (case l5 => k_is)
    (case c5 => k_is)
    (case k5 => k_is)
    (case a6 => k_is)
    (case l6 => k_is)
    (case c6 => k_is)
    (case k6 => k_is)
    (case a7 => k_is)
    (case l7 => k_is)
    (case c7 => k_is)
    (case k7 => k_is)
    (case a8 => k_is)
    (case l8 => k_is)
    (case c8 => k_is)
    (case k8 => k_is)
    (case a9 => k_is)
    (case l9 => k_is)
    (case c9 => k_is)
    (case k9 => k_is)
    (case a10 => k_is)
    (case l10 => k_is)
    (case c10 => k_is)
    (case k10 => k_is)
    (case a11 => k_is)
    (case l11 => k_is)
    (case c11 => k_is)
    (case k11 => k_is)
    (case a12 => k_is)
    (case l12 => k_is)
    (case c12 => k_is)
    (case k12 => k_is)
    (case a13 => k_is)
    (case l13 => k_is)
    (case c13 => k_is)
    (case k13 => k_is)
    (case a14 => k_is)
    (case l14 => k_is)
    (case c14 => k_is)
    (case k14 => k_is)
    (case a15 => k_is)
    (case l15 => k_is)
    (case c15 => k_is)
    (case k15 => k_is)
    (case gCQ => k_is)
    (case gCE => k_is)
    (case a16 => k_is)
    (case t16 => k_is)
    (case l16 => k_is)
    (case c16 => k_is)
    (case k16 => k_is)
    (case x1CE => kernel_rfl)
    (case x2CE => kernel_rfl)
    (case x3CE => kernel_rfl)
    (case x4CE => kernel_rfl)
    (case gCS => k_is)
    (case gCT => k_is)
    (case a17 => k_is)
    (case t17 => k_is)
    (case l17 => k_is)
    (case c17 => k_is)
    (case k17 => k_is)
    (case a18 => k_is)
    (case t18 => k_is)
    (case l18 => k_is)
    (case c18 => k_is)
    (case k18 => k_is)
    (case a19 => k_is)
    (case t19 => k_is)
    (case l19 => k_is)
    (case c19 => k_is)
    (case k19 => k_is)
    (case cg20 => k_is)
    (case a20 => k_is)
    (case l20 => k_is)
    (case c20 => k_is)
    (case k20 => k_is)
    (case fi20 => k_is)
    (case fr => kernel_rfl)
    (case ex => kernel_rfl)
    (case kEE => kernel_rfl)
    (case exE => kernel_rfl)
    (case i1 => kernel_rfl)
    (case s1 => kernel_rfl)
    (case m1 => kernel_rfl)
    (case gA => k_is)
    (case no1 => k_is)
    (case no2 => k_is)
