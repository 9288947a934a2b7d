import PyProof.Rows.All
import Wide.All
import OpenK.AllK
import Wide.FinOn
import KE.OsRunLaw
import KE.KNestM
import KE.HD2
import HandS.ForMost
import HandS.ForExc
import HandS.ExcInit
import HandS.ExcIs
import HandS.Deep
import HandS.Defaults
import HandS.ExcField
import HandS.ExcValue
import KE.KExcIs
import HandS.Text
import HandS.TupLe
import HandS.IsInst
import HandS.Steps
import HandS.Walk
import HandS.StrMore
import HandS.FStrTup
import HandS.More
import HandS.SlotsOwn
import HandS.RaiseMore
import KE.KCallOwn
import PyProof.InstNe
import HandS.SortKw
import KE.DatumOrd
import KE.GoesEnum
import HandS.Set
import HandS.Sort
import KE.KExcInit
import HandS.Star
import HandS.New0
import HandS.FStr
import HandS.ClsMeth
import HandS.MethStar
import HandS.NestedK
import KE.KSuper
import HandS.SetBool
import HandS.Strs
import HandS.Rev
import HandS.DictTup
import HandS.SortInts
import HandS.SortOrd
import HandS.Keys
import HandS.Conv
import KE.KSortTupAny
import KE.KParD
import KE.KeyNested
import KE.KDictWalk
import KE.KDictCopyH
import HandS.WordsDict
import HandS.Iter
import PyProof.DictUpdate
import PyProof.DictDisplay
import KE.KDictOf
import HandS.DictComp
import HandS.RevTup
import KE.KDictList
import KE.KDictSum
import HandS.TupAny
import KE.KOpsOwn
import OpenK.KMeth
import OpenK.KOps
import HandS.OwnEq
import HandS.TryOnly
import PySem.Challenge.RW_quotehome_k07_whole_steps_in_a_row
set_option Elab.async false
set_option linter.all false
set_option maxRecDepth 100000
/-! The head by one run, looked at in parts, where tables of code objects are empty at the entry. -/
namespace Qhd
open PySem PySem.W HeadRun
/-- the parts that are looked at -/
def obT (as ts : List Addr) (s : SharedT) : List (Option Obj) × List (Option Obj) := (as.map (getT s), ts.map (getT s))
theorem obT_eq {K : Params → Frag} {as ts : List Addr} {e : ∀ P, as = (K P).map (·.1)} (s : SharedT) : obT as ts s = (kmHook K as e ts).obs s.abs := by
  show ((as.map (getT s), ts.map (getT s)) : List (Option Obj) × List (Option Obj)) = (as.map s.abs.heap.get?, ts.map s.abs.heap.get?)
  rw [List.map_congr_left fun a _ => getT_eq s a, List.map_congr_left fun a _ => getT_eq s a]
section
variable {S α β γ δ : Type} {x : Option S}
theorem both {f : S → α} {g : S → β} {a : α} {b : β} (h1 : x.map f = some a) (h2 : x.map g = some b) : x.map (fun s => (f s, g s)) = some (a, b) := by
  cases x with
  | none => cases h1
  | some s =>
    injection h1 with h1
    injection h2 with h2
    show some (f s, g s) = _
    rw [h1, h2]
theorem parts {γ : Type} {g : S → Addr → γ} {as : List Addr} {vs : List γ} (n : Nat) (h1 : x.map (fun s => (as.take n).map (g s)) = some (vs.take n)) (h2 : x.map (fun s => (as.drop n).map (g s)) = some (vs.drop n)) : x.map (fun s => as.map (g s)) = some vs := by
  cases x with
  | none => cases h1
  | some s =>
    injection h1 with h1
    injection h2 with h2
    have h1 : (as.take n).map (g s) = vs.take n := h1
    have h2 : (as.drop n).map (g s) = vs.drop n := h2
    show some (as.map (g s)) = _
    rw [← List.take_append_drop n as, List.map_append, h1, h2, List.take_append_drop]
end
/-- the last row alone: the law -/
def viewOf (p : Program) (n : Nat) : Program := { p with main := { p.main with body := p.main.body.drop n } }
end Qhd
set_option Elab.async false
set_option linter.all false
set_option maxRecDepth 100000
set_option maxHeartbeats 4000000
/-! Calls where no repr is under way (guards): the def's promise, its body, its call, the law's end. -/
namespace Qh
open PySem PySem.Spec PyProof.Rows L2
section
variable {P : Program} {w : World} {K : PySem.W.Frag} {mg : Str → Option Value} {base : Heap} {CX : CXT} {k : Nat} {f : Addr} {fd : FuncData} {ps : List Str} {sp : Sp}

/-- one call of f, at the around A -/
def RunAt (P : Program) (w : World) (K : PySem.W.Frag) (mg : Str → Option Value) (base : Heap) (CX : CXT) (k : Nat) (f : Addr) (fd : FuncData) (ps : List Str) (sp : Sp) (A : Around) : Prop :=
  ∀ (out : List Env) (t : Shared) (G : Hp) (xs : Args) (us : List Value) (vs : List V) (Q : VK) (E : XK),
    Room k A → Env0 P w K mg base A out t G → BindsTo t fd xs (ps.zip us) → Vals vs us → sp vs G Q E →
      codeAny (model P w) A (.call (.ref f) xs) (CR CX out P w G t Q E) t

/-- the promise of a def that is called where no repr is under way -/
structure FnG (P : Program) (w : World) (K : PySem.W.Frag) (mg : Str → Option Value) (base : Heap) (CX : CXT) (k : Nat) (f : Addr) (fd : FuncData) (ps : List Str) (sp : Sp) : Prop where
  len : ∀ vs G Q E, sp vs G Q E → vs.length = ps.length
  run : ∀ A : Around, A.guards = some [] → RunAt P w K mg base CX k f fd ps sp A

theorem FnG.of (F : FnOk P w K mg base CX k f fd ps sp) : FnG P w K mg base CX k f fd ps sp :=
  ⟨F.len, fun A _ out t G xs us vs Q E hr e0 hb r h => F.run A out t G xs us vs Q E hr e0 hb r h⟩

theorem runAt_of {A : Around} {name qual : Str} {params : Arguments} {body : List Stmt} {scope : Scope} {dV kV doc pm cdv ct oc : Value} {an od : Option Addr} {osl : Array (Option Value)} {N : List Str}
    (lk : K.lookup f = some ⟨oc, od, .func (PySem.W.fnOf name qual params body scope dV kV doc pm an cdv ct), osl⟩)
    (hcd : PySem.W.codeIn K cdv qual = true) (S : FnScope N ps scope)
    (len : ∀ vs G Q E, sp vs G Q E → vs.length = ps.length)
    (hbody : ∀ (out : List Env) (t : Shared) (G : Hp) (vs : List V) (Q : VK) (E : XK),
      Room k (A.deeper (envOfC qual scope t.heap.objs.size f cdv)) → sp vs G Q E →
      ∃ rd, PSs (cxOf CX P w K mg base N qual scope f cdv A out t G E) body rd ∧ rd { nx := fun _ G' => Q .non G', rt := Q } (start N vs) G) :
    RunAt P w K mg base CX (k + 1) f (PySem.W.fnOf name qual params body scope dV kV doc pm an cdv ct) ps sp A := by
  intro out t G xs us vs Q E room e0 binds rel want
  have kin : K.In t.heap := e0.mod.kin.keeps fun a o h => (e0.bs a o h).1
  have nolim : t.heap.NoLimit := e0.mod.nolimit.keeps fun a o h => (e0.bs a o h).1
  have kinds : ∀ y ∈ ps.zip us, scope.names.lookup y.1 = some .local ∨ (scope.names.lookup y.1 = some .cell ∧
      ((cellsFrom (t.heap.objs.size + 1) scope.names []).lookup y.1).isSome = true) := by
    rintro ⟨n, v⟩ hy
    cases S.par n (List.of_mem_zip hy).1 with
    | inl q => exact Or.inl q
    | inr q => exact Or.inr ⟨q, PySem.W.cellsFrom_some _ _ _ (.inl q)⟩
  refine codeAny_call_function room.depth (kin _ _ lk) rfl S.co S.gen rfl (PySem.W.codeRec_of kin hcd) (binds _ _ _ _ ?_)
  refine wpAny_newFunctionEnv_cells S.kind kinds fun env he s1 inside => ?_
  subst he
  refine ⟨nolim.keeps inside.toInCall.keep, codeAny_func ?_⟩
  obtain ⟨rd, hrd, hq⟩ := hbody out t G vs Q E (room.deeper _) want
  have I := inv_start (CX := CX) (E := E) S room.hd e0 (len _ _ _ _ want) rel inside
  refine wpAny_mono (hrd.run [] s1 (start N vs) G _ I hq) ?_ (fun _ _ z => z)
  intro flow s2 hs
  cases flow with
  | ret u =>
    obtain ⟨v, σ', G', J, rv, q⟩ := hs
    exact ⟨v, G', J.os, J.bare, J.base, J.hok, rv, q⟩
  | next =>
    obtain ⟨σ', G', J, q⟩ := hs
    exact ⟨V.non, G', J.os, J.bare, J.base, J.hok, rfl, q⟩
  | brk => exact (hs.elim fun _ z => z.elim fun _ z => z.2).elim
  | cont => exact (hs.elim fun _ z => z.elim fun _ z => z.2).elim

theorem okG {x qual : Str} {st : Stmt} {N : List Str} (F : Fun K x qual st f fd) (S : FnScope N ps (defScope st)) (len : ∀ vs G Q E, sp vs G Q E → vs.length = ps.length)
    (hbody : ∀ (cdv : Value) (A : Around) (out : List Env) (t : Shared) (G : Hp) (vs : List V) (Q : VK) (E : XK), A.guards = some [] →
      Room k (A.deeper (envOfC qual (defScope st) t.heap.objs.size f cdv)) → sp vs G Q E →
      ∃ rd, PSs (cxOf CX P w K mg base N qual (defScope st) f cdv A out t G E) (defBody st) rd ∧ rd { nx := fun _ G' => Q .non G', rt := Q } (start N vs) G) :
    FnG P w K mg base CX (k + 1) f fd ps sp := by
  obtain ⟨oc, od, kV, doc, pm, an, cdv, ct, osl, rfl, lk, hcd⟩ := F.ex
  exact ⟨len, fun A hg => runAt_of lk hcd S len fun out t G vs Q E room want => hbody cdv A out t G vs Q E hg room want⟩
end
section
variable {X : Cx} {CX : CXT} {k : Nat} {f : Addr} {fd : FuncData} {ps : List Str} {sp : Sp} {dvs : List V} {ds : List Value} {E : XK} {x : Str} {p pos : Pos} {e : Expr} {es : List Expr} {t : TA}
end

/-! ### the law's end -/
theorem law_callG {P : Program} {w : World} {K : PySem.W.Frag} {mg mb : Str → Option Value} {CX : CXT} {k : Nat} {fa a : Addr} {fd : FuncData} {x : Str} {sp : Sp} {t : Shared} {vs : List Value} {ns : List Int}
    (kin : K.In t.heap) (hns : t.heap.Ns mainGlobals mg) (hb : t.heap.Ns builtinsNs mb) (hbb : ∀ x : Str, x ≠ "__name__" → mb x = bootBuiltins x) (hlim : t.heap.NoLimit) (hgen : t.gens = #[])
    (ha : t.heap.get? a = some { cls := .type "list", data := .seq vs.toArray }) (hi : IntsAre vs ns) (hl : ns.length ≤ sizeLine) (room : Room k callerA)
    (F : ∀ base : Heap, K.In base → base.Ns mainGlobals mg → FnG P w K mg base CX k fa fd [x] sp) (hbind : ∀ (s : Shared) (u : Value), BindsTo s fd ⟨[u], []⟩ [(x, u)])
    (hsp : ∀ G : Hp, Only G → SqL K G a (ns.map V.int) → sp [.ref a] G (fun v _ => v = .bl true) fun _ _ _ => False)
    (hCX : ∀ G e s', CX [] G t (fun _ _ _ => False) e s' → False) :
    codeAny (model P w) callerA (.call (.ref fa) ⟨[.ref a], []⟩) (fun r s' => r = .ok (.ret (.bool true)) ∧ OldK t.heap s'.heap ∧ s'.os = t.os ∧ AllBare s'.gens) t := by
  have rel := L2.vals_ints hi
  have count := hi.length
  have none_in : ∀ b : Addr, b ∉ frs ([] : List Env) := fun b h => (by simpa [frs] using h)
  -- G tracks nothing but, perhaps, the script
  have main : ∀ G : Hp, Only G → SqL K G a (ns.map V.int) → HOk P w G t.heap → (∀ b u, G b = some u → b = a ∧ K.lookup a = none) →
      codeAny (model P w) callerA (.call (.ref fa) ⟨[.ref a], []⟩) (fun r s' => r = .ok (.ret (.bool true)) ∧ OldK t.heap s'.heap ∧ s'.os = t.os ∧ AllBare s'.gens) t := by
    intro G only seq hok which
    have plain : ∀ {b : Addr} {m : Str → Option Value}, t.heap.Ns b m → (hidT t.heap G).Ns b m := by
      rintro b m ⟨o, es, ep, e, d, r⟩
      refine ⟨o, es, ep, hidT_get e ?_, d, r⟩
      cases q : G b with
      | none => rfl
      | some u =>
        obtain ⟨rfl, _⟩ := which b u q
        rw [ha] at e
        injection e with e
        subst e
        cases d
    have kinB : K.In (hidT t.heap G) := fun b o e => hidT_get (kin b o e) (by
      cases q : G b with
      | none => rfl
      | some u =>
        obtain ⟨rfl, z⟩ := which b u q
        rw [z] at e
        cases e)
    have modB : Mod K mg (hidT t.heap G) := ⟨kinB, plain hns, ⟨mb, plain hb, hbb⟩, by
      obtain ⟨mc, h1, h2⟩ := hlim
      exact ⟨mc, plain h1, h2⟩⟩
    have start0 : Env0 P w K mg (hidT t.heap G) callerA [] t G :=
      { frames := rfl, mod := modB, bs := fun b o e => of_hidT e, bsz := Nat.le_of_eq (hidT_size _ _), funs := trivial, frf := fun b h => absurd h (none_in b), hok := hok, bare := .of_eq hgen }
    refine codeAny_mono ((F _ kinB (plain hns)).run callerA rfl [] t G ⟨[.ref a], []⟩ [.ref a] [.ref a] _ _ room start0 (hbind t (.ref a)) (.cons rfl .nil) (hsp G only seq)) ?_
    rintro (e | fl) s' h
    · exact (hCX G e s' h).elim
    · cases fl with
      | next => exact h.elim
      | brk => exact h.elim
      | cont => exact h.elim
      | ret u =>
        obtain ⟨v, G', hos, bare, un, hok', ru, rfl⟩ := h
        have ru' : u = Value.bool true := ru
        subst ru'
        refine ⟨rfl, OldK.of_keep fun b o e => ?_, hos, bare⟩
        cases q : G b with
        | none => exact un.keep b o e q (none_in b) (by simp)
        | some u =>
          obtain z | ⟨ob, xs, z⟩ := only b
          · rw [q] at z
            cases z
          · have e1 := (hok b _ z).1
            have e2 := (hok' b _ (un.frzs b ob _ z)).1
            rw [e] at e1
            injection e1 with e1
            rw [e1]
            exact e2
  have size : (ns.map V.int).length ≤ sizeLine := by
    rw [List.length_map]
    exact hl
  cases hk : K.lookup a with
  | some o =>
    have e := kin a o hk
    rw [ha] at e
    injection e with e
    subst e
    refine main (fun _ => none) (fun _ => Or.inl rfl) (Or.inr ⟨_, vs.toArray, _, hk, rfl, rfl, rfl, ?_, ?_⟩) (fun b u z => nomatch z) (fun b u z => nomatch z)
    · rw [List.size_toArray, count]
      exact hl
    · rw [List.toList_toArray]
      exact rel
  | none =>
    have at_a : ∀ {b : Addr} {u : HO}, (if b = a then some (HO.frz { cls := .type "list", data := .seq vs.toArray } (.lst (ns.map V.int))) else none) = some u →
        b = a ∧ u = HO.frz { cls := .type "list", data := .seq vs.toArray } (.lst (ns.map V.int)) := by
      intro b u z
      split at z
      · rename_i hb
        injection z with z
        exact ⟨hb, z.symm⟩
      · cases z
    refine main (fun b => if b = a then some (.frz { cls := .type "list", data := .seq vs.toArray } (.lst (ns.map V.int))) else none) ?_ (Or.inl (Or.inr ⟨_, if_pos rfl⟩)) ?_ (fun b u z => ⟨(at_a z).1, hk⟩)
    · intro b
      by_cases hb : b = a
      · exact Or.inr ⟨_, _, if_pos hb⟩
      · exact Or.inl (if_neg hb)
    · intro b u z
      obtain ⟨rfl, rfl⟩ := at_a z
      exact ⟨ha, size, vs, _, rel, ha⟩

theorem walk_ofG {l : PySem.W.OpenLaw} {n k : Nat} {q : Program} {loose : List Str} {XP : (Str → Option Value) → Heap → Prop} {YP : World → Heap → Prop} {d : DefRec} {K : Params → PySem.W.Frag} {CX : World → CXT} {sp : World → Sp} {x : Str}
    (hn : l.most = some n) (hn2 : n ≤ sizeLine) (hdf : d.params.defaults = []) (room : Room k callerA)
    (hY : ∀ (w : World) (h : Heap), YP w h → (K w.params).In h)
    (F : ∀ (w : World) (mg : Str → Option Value) (fa : Addr) (h : Heap), (K w.params).In h → h.Ns mainGlobals mg → mg d.name = some (.ref fa) →
      ∃ fd : FuncData, (∀ (s : Shared) (u : Value), BindsTo s fd ⟨[u], []⟩ [(x, u)]) ∧
        ∀ base : Heap, (K w.params).In base → base.Ns mainGlobals mg → FnG l.prog w (K w.params) mg base (CX w) k fa fd [x] (sp w))
    (hsp : ∀ (w : World) (G : Hp) (a : Addr) (ns : List Int), ns.length ≤ n → Only G → SqL (K w.params) G a (ns.map V.int) → sp w [.ref a] G (fun v _ => v = .bl true) fun _ _ _ => False)
    (hCX : ∀ (w : World) (G : Hp) (s : Shared) (e : Value) (s' : Shared), CX w [] G s (fun _ _ _ => False) e s' → False) :
    PySem.W.WalkO q loose XP YP l.row.toRowW d [] (fun f vs => PySem.call f vs) := by
  refine Att.attach_call hn hdf ?_
  intro w s0 s1 mg mb fa o pm cd doc a vs ns Gr Y ho hd hcd hmg hobj hints hlen hgen
  obtain ⟨fd, hb, hF⟩ := F w mg fa _ (hY w _ Y) Gr.T.g hmg
  exact law_callG (hY w _ Y) Gr.T.g Gr.T.b Gr.T.builtins Gr.T.nolimit hgen hobj hints (Nat.le_trans hlen hn2) room hF hb (fun G only seq => hsp w G a ns hlen only seq) fun G e s' => hCX w G s1 e s'
end Qh
set_option Elab.async false
set_option linter.all false
set_option maxRecDepth 100000
set_option maxHeartbeats 4000000
/-! An error that is caught and then kept under a name of the def: the object itself is tracked. -/
namespace Qh
open PySem PySem.Spec PyProof.Rows L2

section
variable {X : Cx} {pins : List (Addr × Obj)} {σ : L2.St} {G : Hp} {s : Shared}
end

section
variable {X : Cx} {x n y : Str} {c : Value} {i j : Nat} {body : List Stmt} {np p1 p2 p3 pos pos' : Pos} {tb : WX → TS} {Wout : WX}
end
/-! ### the kept error: its fields, isinstance -/
end Qh
set_option Elab.async false
set_option linter.all false
set_option maxRecDepth 100000
set_option maxHeartbeats 4000000
/-! Own defs by name: what stands behind the top, how they are called. -/
namespace Qh
open PySem PySem.Spec PyProof.Rows L2

/-- the def x of the module keeps sp -/
structure Ok (P : Program) (w : World) (K : PySem.W.Frag) (mg : Str → Option Value) (base : Heap) (x : Str) (pa : Arguments) (ps : List Str) (k : Nat) (sp : Sp) : Prop where
  ex : ∃ (f : Addr) (body : List Stmt) (scope : Scope) (kV doc pm : Value) (an : Option Addr) (cdv ct : Value), mg x = some (.ref f) ∧ PySem.W.keepIn K (.ref f) = true ∧
    (∀ us : List Value, us.length = ps.length → bindArgs (PySem.W.fnOf x x pa body scope .none kV doc pm an cdv ct) ⟨us, []⟩ = pure (ps.zip us)) ∧
    FnOk P w K mg base (L2.CX P w) k f (PySem.W.fnOf x x pa body scope .none kV doc pm an cdv ct) ps sp
/-- .. where no repr is under way -/
structure OkG (P : Program) (w : World) (K : PySem.W.Frag) (mg : Str → Option Value) (base : Heap) (x : Str) (pa : Arguments) (ps : List Str) (k : Nat) (sp : Sp) : Prop where
  ex : ∃ (f : Addr) (body : List Stmt) (scope : Scope) (kV doc pm : Value) (an : Option Addr) (cdv ct : Value), mg x = some (.ref f) ∧ PySem.W.keepIn K (.ref f) = true ∧
    (∀ us : List Value, us.length = ps.length → bindArgs (PySem.W.fnOf x x pa body scope .none kV doc pm an cdv ct) ⟨us, []⟩ = pure (ps.zip us)) ∧
    FnG P w K mg base (L2.CX P w) k f (PySem.W.fnOf x x pa body scope .none kV doc pm an cdv ct) ps sp

section
variable {X : Cx} {W : WX} {k : Nat} {ps : List Str} {sp : Sp} {pa : Arguments} {x : Str} {p pos : Pos} {e : Expr} {es : List Expr} {t : TA}
theorem bindsOf {K : PySem.W.Frag} {x : Str} {pa : Arguments} {body : List Stmt} {scope : Scope} {kV doc pm : Value} {an : Option Addr} {cdv ct : Value} {ps : List Str}
    (h : ∀ us : List Value, us.length = ps.length → bindArgs (PySem.W.fnOf x x pa body scope .none kV doc pm an cdv ct) ⟨us, []⟩ = pure (ps.zip us)) : Binds K (PySem.W.fnOf x x pa body scope .none kV doc pm an cdv ct) ps [] := .all h
/-- f(e, ..), f a def of the module -/
theorem pe_own (F : Ok X.prog X.w X.K X.mg X.base x pa ps k sp) (hr : Room k X.A) (tk : Takes X W) (ha : PA X (e :: es) t) (hg : Gl X x := by rfl) (hdb : (x == ("__debug__" : Str)) = false := by decide)
    (he : starEach (e :: es) X.env = (false, eval e X.env) :: starEach es X.env := by rfl) (hpl : (backTo pos (starEach es X.env)).any (·.1) = false := by rfl) :
    PE X (.Call (.Name x p) (e :: es) [] pos) (tCallS sp (WE W) t) := by
  obtain ⟨f, body, scope, kV, doc, pm, an, cdv, ct, hm, hk, hb, F⟩ := F.ex
  exact pe_callS F hr hg hm hk (bindsOf hb) (fun σ => passAt tk σ) ha hdb he hpl
/-- f() -/
theorem pe_own0 (F : Ok X.prog X.w X.K X.mg X.base x pa [] k sp) (hr : Room k X.A) (hg : Gl X x := by rfl) (hdb : (x == ("__debug__" : Str)) = false := by decide) :
    PE X (.Call (.Name x p) [] [] pos) (tCall sp [] E0 tNil) := by
  obtain ⟨f, body, scope, kV, doc, pm, an, cdv, ct, hm, hk, hb, F⟩ := F.ex
  exact pe_call0 F hr hg hm hk (bindsOf hb) .nil passL hdb
/-! ### keywords alone, where errors are wished for at the caller's slots -/
end

/-! ### a def as the top has left it -/
structure DefIn (K : PySem.W.Frag) (mg : Str → Option Value) (x : Str) (st : Stmt) : Prop where
  ex : ∃ (f : Addr) (fd : FuncData), Fun K x x st f fd ∧ mg x = some (.ref f)
section
variable {P : Program} {w : World} {K : PySem.W.Frag} {mg : Str → Option Value} {base : Heap} {x : Str} {st : Stmt} {N ps : List Str} {k : Nat} {sp : Sp}
/-- its promise, by its body -/
theorem DefIn.ok (D : DefIn K mg x st) (S : FnScope N ps (defScope st)) (len : ∀ vs G Q E, sp vs G Q E → vs.length = ps.length)
    (hbind : ∀ (kV doc pm : Value) (an : Option Addr) (cdv ct : Value) (us : List Value), us.length = ps.length → bindArgs (PySem.W.fnOf x x (defArgs st) (defBody st) (defScope st) .none kV doc pm an cdv ct) ⟨us, []⟩ = pure (ps.zip us))
    (hbody : ∀ (f : Addr) (cdv : Value) (A : Around) (out : List Env) (t : Shared) (G : Hp) (vs : List V) (Q : VK) (E : XK), Room k (A.deeper (envOfC x (defScope st) t.heap.objs.size f cdv)) → sp vs G Q E →
      ∃ rd, PSs (cxOf (L2.CX P w) P w K mg base N x (defScope st) f cdv A out t G E) (defBody st) rd ∧ rd { nx := fun _ G' => Q .non G', rt := Q } (start N vs) G) :
    Ok P w K mg base x (defArgs st) ps (k + 1) sp := by
  obtain ⟨f, fd, F, hm⟩ := D.ex
  have G : FnOk P w K mg base (L2.CX P w) (k + 1) f fd ps sp := F.okX S len fun cdv A out t G vs Q E room want => hbody f cdv A out t G vs Q E room want
  obtain ⟨oc, od, kV, doc, pm, an, cdv, ct, osl, rfl, lk, hcd⟩ := F.ex
  exact ⟨⟨f, _, _, kV, doc, pm, an, cdv, ct, hm, F.kp, fun us hl => hbind kV doc pm an cdv ct us hl, G⟩⟩
theorem DefIn.okG (D : DefIn K mg x st) (S : FnScope N ps (defScope st)) (len : ∀ vs G Q E, sp vs G Q E → vs.length = ps.length)
    (hbind : ∀ (kV doc pm : Value) (an : Option Addr) (cdv ct : Value) (us : List Value), us.length = ps.length → bindArgs (PySem.W.fnOf x x (defArgs st) (defBody st) (defScope st) .none kV doc pm an cdv ct) ⟨us, []⟩ = pure (ps.zip us))
    (hbody : ∀ (f : Addr) (cdv : Value) (A : Around) (out : List Env) (t : Shared) (G : Hp) (vs : List V) (Q : VK) (E : XK), A.guards = some [] → Room k (A.deeper (envOfC x (defScope st) t.heap.objs.size f cdv)) → sp vs G Q E →
      ∃ rd, PSs (cxOf (L2.CX P w) P w K mg base N x (defScope st) f cdv A out t G E) (defBody st) rd ∧ rd { nx := fun _ G' => Q .non G', rt := Q } (start N vs) G) :
    OkG P w K mg base x (defArgs st) ps (k + 1) sp := by
  obtain ⟨f, fd, F, hm⟩ := D.ex
  have G : FnG P w K mg base (L2.CX P w) (k + 1) f fd ps sp := Qh.okG F S len fun cdv A out t G vs Q E gu room want => hbody f cdv A out t G vs Q E gu room want
  obtain ⟨oc, od, kV, doc, pm, an, cdv, ct, osl, rfl, lk, hcd⟩ := F.ex
  exact ⟨⟨f, _, _, kV, doc, pm, an, cdv, ct, hm, F.kp, fun us hl => hbind kV doc pm an cdv ct us hl, G⟩⟩
end
end Qh
set_option Elab.async false
set_option linter.all false
set_option maxRecDepth 100000
set_option maxHeartbeats 4000000
/-! What every law of this table brings: built-in names, repr of data, the pen. -/
namespace Qh
open PySem PySem.Spec PyProof.Rows L2

/-- the built-in names that the module leaves alone -/
structure Blt (mg : Str → Option Value) : Prop where
  n_len : mg "len" = none
  n_int : mg "int" = none
  n_abs : mg "abs" = none
  n_list : mg "list" = none
  n_tuple : mg "tuple" = none
  n_range : mg "range" = none
  n_repr : mg "repr" = none
  n_all : mg "all" = none
  n_any : mg "any" = none
  n_isinstance : mg "isinstance" = none
  n_str : mg "str" = none
  n_bool : mg "bool" = none
  n_dict : mg "dict" = none
  n_set : mg "set" = none
  n_sorted : mg "sorted" = none
  n_enumerate : mg "enumerate" = none
  n_zip : mg "zip" = none
  n_max : mg "max" = none
  n_sum : mg "sum" = none
  n_min : mg "min" = none
  n_reversed : mg "reversed" = none

theorem bt_len : bootBuiltins "len" = some (.builtin "len") := by decide +kernel
theorem bt_abs : bootBuiltins "abs" = some (.builtin "abs") := by decide +kernel
theorem bt_int : bootBuiltins "int" = some (.type "int") := by decide +kernel
theorem bt_list : bootBuiltins "list" = some (.type "list") := by decide +kernel
theorem bt_tuple : bootBuiltins "tuple" = some (.type "tuple") := by decide +kernel
theorem bt_str : bootBuiltins "str" = some (.type "str") := by decide +kernel
theorem bt_dict : bootBuiltins "dict" = some (.type "dict") := by decide +kernel
theorem bt_set : bootBuiltins "set" = some (.type "set") := by decide +kernel
theorem bt_repr : bootBuiltins "repr" = some (.builtin "repr") := by decide +kernel
theorem bt_all : bootBuiltins "all" = some (.builtin "all") := by decide +kernel
theorem bt_any : bootBuiltins "any" = some (.builtin "any") := by decide +kernel
theorem bt_isinstance : bootBuiltins "isinstance" = some (.builtin "isinstance") := by decide +kernel
theorem bt_sorted : bootBuiltins "sorted" = some (.builtin "sorted") := by decide +kernel
/-! ### repr of data, where no repr is under way -/
section
variable {X : Cx}
def rRepr (K : PySem.W.Frag) : List V → Hp → VK → Prop := fun xs G Q => ∃ (a : Addr) (d : PyData), xs = [.ref a] ∧ Dp K G (.ref a) d ∧ d.showable = true ∧ d.hasDict = false ∧ d.depth ≤ 40 ∧ d.shown.length ≤ sizeLine ∧ Q (.str d.shown) G
theorem call_repr (gu : X.A.guards = some []) (hu : X.A.units + 64 < cLine) : CallR X (.builtin "repr") (rRepr X.K) := by
  rintro pins s σ G xs us Q I r ⟨a, d, rfl, hd, hs, hn, hk, hz, q⟩
  obtain ⟨u, rfl, ru⟩ := vals1 r
  obtain rfl : u = Value.ref a := ru
  obtain ⟨as, rd⟩ := Dp.reads I d _ _ hd rfl
  exact repr_of_reads' rd hs (PyData.noDict_hsm hn) gu (by omega) (fun _ _ z => z) (fun h' u tk k => ⟨.str d.shown, G, I.kept k, ⟨u, rfl⟩, q⟩) hz
end

/-! ### the pen: the script's cells, how many are read, what is left of a great cell -/
def Pen (G : Hp) (p l : Addr) (c : Int) : Prop :=
  ∃ (n g : Int) (ns : List Int), G p = some (.lst [.ref l, .int n, .int g]) ∧ G l = some (.lst (ns.map V.int)) ∧ l ≠ p ∧ 0 ≤ n ∧ n ≤ c ∧ 0 ≤ g
/-- all that was tracked but p is as it was -/
def Kp (p : Addr) (G G' : Hp) : Prop := ∀ b o, b ≠ p → G b = some o → G' b = some o
theorem Kp.refl (p : Addr) (G : Hp) : Kp p G G := fun _ _ _ h => h
theorem Kp.trans {p : Addr} {G G1 G2 : Hp} (a : Kp p G G1) (b : Kp p G1 G2) : Kp p G G2 := fun x o n h => b x o n (a x o n h)
theorem Kp.new {p q : Addr} {G : Hp} {o : HO} (h : G q = none) : Kp p G (upd G q o) := fun b u _ e => by
  rw [upd_ne (ne_of_none e h)]
  exact e
theorem Kp.self {p : Addr} {G : Hp} {o : HO} : Kp p G (upd G p o) := fun b u n e => by
  rw [upd_ne n]
  exact e
theorem Kp.same {p : Addr} {G G' : Hp} (h : Same G G') : Kp p G G' := fun b o _ e => h b o e
theorem Same.new {q : Addr} {G : Hp} {o : HO} (h : G q = none) : Same G (upd G q o) := fun b u e => by
  rw [upd_ne (ne_of_none e h)]
  exact e
/-- an object that was not there before may change -/
theorem Kp.fresh {p q : Addr} {G G' : Hp} {o : HO} (k : Kp p G G') (h : G q = none) : Kp p G (upd G' q o) := fun b u n e => by
  rw [upd_ne (ne_of_none e h)]
  exact k b u n e
theorem Kp.free {p q : Addr} {G G' : Hp} (k : Kp p G G') (n : q ≠ p) (h : G' q = none) : G q = none := by
  cases e : G q with
  | none => rfl
  | some o =>
    rw [k q o n e] at h
    cases h
theorem Pen.mono {G : Hp} {p l : Addr} {c c' : Int} (P : Pen G p l c) (h : c ≤ c') : Pen G p l c' := by
  obtain ⟨n, g, ns, h1, h2, h3, h4, h5, h6⟩ := P
  exact ⟨n, g, ns, h1, h2, h3, h4, Int.le_trans h5 h, h6⟩
/-- an object that is neither the pen nor its cells may change -/
theorem Pen.upd {G : Hp} {p l q : Addr} {c : Int} {o : HO} (P : Pen G p l c) (hp : q ≠ p) (hl : q ≠ l) : Pen (upd G q o) p l c := by
  obtain ⟨n, g, ns, h1, h2, h3⟩ := P
  refine ⟨n, g, ns, ?_, ?_, h3⟩
  · rw [upd_ne hp.symm]
    exact h1
  · rw [upd_ne hl.symm]
    exact h2
theorem Pen.same {G G' : Hp} {p l : Addr} {c : Int} (P : Pen G p l c) (k : Same G G') : Pen G' p l c := by
  obtain ⟨n, g, ns, h1, h2, h3⟩ := P
  exact ⟨n, g, ns, k _ _ h1, k _ _ h2, h3⟩
theorem Pen.ne {G : Hp} {p l q : Addr} {c : Int} (P : Pen G p l c) (h : G q = none) : q ≠ p := fun e => by
  obtain ⟨n, g, ns, h1, _⟩ := P
  rw [e, h1] at h
  cases h
theorem Pen.nel {G : Hp} {p l q : Addr} {c : Int} (P : Pen G p l c) (h : G q = none) : q ≠ l := fun e => by
  obtain ⟨n, g, ns, _, h1, _⟩ := P
  rw [e, h1] at h
  cases h
theorem Pen.new {G : Hp} {p l q : Addr} {c : Int} {o : HO} (P : Pen G p l c) (h : G q = none) : Pen (L2.upd G q o) p l c := P.upd (P.ne h) (P.nel h)
/-- a number below m is drawn -/
def spDraw : Sp := fun vs G Q _ => ∃ (p l : Addr) (c m : Int), vs = [.ref p, .int m] ∧ Pen G p l c ∧ c ≤ 1000000 ∧ 0 < m ∧ m ≤ 1000000 ∧ ∀ (d : Int) (G' : Hp), 0 ≤ d → d < m → Kp p G G' → Pen G' p l (c + 1) → Q (.int d) G'
/-- one of some things is drawn -/
def spPick (K : PySem.W.Frag) : Sp := fun vs G Q _ => ∃ (p l a : Addr) (c : Int) (xs : List V), vs = [.ref p, .ref a] ∧ Pen G p l c ∧ c ≤ 1000000 ∧ a ≠ p ∧ SqL K G a xs ∧ 0 < xs.length ∧ xs.length ≤ 1000000 ∧
  ∀ (x : V) (G' : Hp), x ∈ xs → Kp p G G' → Pen G' p l (c + 1) → Q x G'
/-- the pen is made -/
def spPen (K : PySem.W.Frag) : Sp := fun vs G Q _ => ∃ (a : Addr) (ns : List Int), vs = [.ref a] ∧ SqL K G a (ns.map V.int) ∧ ∀ (p l : Addr) (G' : Hp), G p = none → Same G G' → Pen G' p l 0 → Q (.ref p) G'
theorem Kp.seq {K : PySem.W.Frag} {p a : Addr} {G G' : Hp} {xs : List V} (k : Kp p G G') (n : a ≠ p) (h : SqL K G a xs) : SqL K G' a xs := by
  rcases h with (h | ⟨o, h⟩) | h
  · exact .inl (.inl (k _ _ n h))
  · exact .inl (.inr ⟨o, k _ _ n h⟩)
  · exact .inr h

/-! ### data -/
theorem dp_ints {K : PySem.W.Frag} {G : Hp} : ∀ ns : List Int, DpAll K G (ns.map V.int) (ns.map PyData.int)
  | [] => .nil
  | a :: r => .cons (.int a) (dp_ints r)
theorem lay_ints : ∀ ns : List Int, PyData.canLayAll0 (ns.map PyData.int) = true ∧ PyData.depthAll (ns.map PyData.int) = 0
  | [] => ⟨rfl, rfl⟩
  | a :: r => ⟨by show (true && PyData.canLayAll0 (r.map PyData.int)) = true; rw [(lay_ints r).1]; rfl, by show max 0 (PyData.depthAll (r.map PyData.int)) = 0; rw [(lay_ints r).2]; rfl⟩
/-- signs that are signs -/
def txt (x : Str) : Bool := x.cps.all (· < 0x110000)
theorem shaped_ints (ns : List Int) : SeqAt.shaped (.list (ns.map PyData.int)) = true := by
  show (PyData.canLayAll0 (ns.map PyData.int) && decide (PyData.depthAll (ns.map PyData.int) + 1 ≤ 64)) = true
  rw [(lay_ints ns).1, (lay_ints ns).2]
  rfl
theorem eqv_nil_r (ds : List PyData) : PyData.eqv (.list ds) (.list []) = decide (ds = []) := by
  cases ds with
  | nil => rfl
  | cons a r => rfl
theorem mod_lt (a b : Int) (h : 0 < b) : 0 ≤ a % b ∧ a % b < b := ⟨Int.emod_nonneg _ (by omega), Int.emod_lt_of_pos _ h⟩
theorem mod_at {xs : List V} (a : Int) (h : 0 < xs.length) : ∃ v, atI xs (a % (xs.length : Int)) = some v ∧ v ∈ xs := by
  have hm := mod_lt a (xs.length : Int) (by omega)
  have hl : (a % (xs.length : Int)).toNat < xs.length := by omega
  refine ⟨xs[(a % (xs.length : Int)).toNat], ?_, List.getElem_mem hl⟩
  have h2 : xs[(a % (xs.length : Int)).toNat]? = some xs[(a % (xs.length : Int)).toNat] := List.getElem?_eq_getElem hl
  have h3 := atI_nat h2
  rwa [Int.toNat_of_nonneg hm.1] at h3
theorem at_lt {xs : List V} (d : Int) (h0 : 0 ≤ d) (h : d < xs.length) : ∃ v, atI xs d = some v ∧ xs[d.toNat]? = some v ∧ v ∈ xs := by
  have hl : d.toNat < xs.length := by omega
  refine ⟨xs[d.toNat], ?_, List.getElem?_eq_getElem hl, List.getElem_mem hl⟩
  have h3 := atI_nat (List.getElem?_eq_getElem hl)
  rwa [Int.toNat_of_nonneg h0] at h3
theorem mem_ints {ns : List Int} {v : V} (h : v ∈ ns.map V.int) : ∃ i, v = V.int i := by
  obtain ⟨i, _, rfl⟩ := List.mem_map.mp h
  exact ⟨i, rfl⟩

theorem pow18 : (10 : Int) ^ (18 : Int).toNat = 1000000000000000000 := by decide +kernel
theorem draw_bound (x n A B b : Int) (hx : 0 ≤ x ∧ x < 2147483648) (hn : 0 ≤ n ∧ n ≤ 1000000) (hA : 0 ≤ A ∧ A ≤ 100000) (hB : 0 ≤ B ∧ B ≤ 100000) (hb : 0 ≤ b ∧ b ≤ 100000) : (x * (2 * n + b) + A * n * n + B).natAbs < 2 ^ 64 := by
  have h1 : x * (2 * n + b) ≤ 2147483648 * 2100000 := Int.mul_le_mul (by omega) (by omega) (by omega) (by omega)
  have h2 : 0 ≤ x * (2 * n + b) := Int.mul_nonneg hx.1 (by omega)
  have h3 : A * n ≤ 100000 * 1000000 := Int.mul_le_mul hA.2 hn.2 hn.1 (by omega)
  have h4 : 0 ≤ A * n := Int.mul_nonneg hA.1 hn.1
  have h5 : A * n * n ≤ 100000 * 1000000 * 1000000 := Int.mul_le_mul h3 hn.2 hn.1 (by omega)
  have h6 : 0 ≤ A * n * n := Int.mul_nonneg h4 hn.1
  omega
theorem great_nonneg (x : Int) (b : Bool) (h : 1000000000000000000 ≤ x) : 0 ≤ 2 * (x - 1000000000000000000) + (if b = true then (1 : Int) else 0) := by
  have hb : (0 : Int) ≤ (if b = true then (1 : Int) else 0) := by cases b <;> decide
  omega

/-! ### words -/
def ltr (c : Nat) : Bool := decide (97 ≤ c) && decide (c ≤ 122)
/-- 1 to m letters -/
def lettersS (x : Str) (m : Int) : Bool := (decide (1 ≤ (x.length : Int)) && decide ((x.length : Int) ≤ m)) && x.cps.toList.all ltr
def lettersV (v : V) (m : Int) : Bool := match v with
  | .str x => lettersS x m
  | _ => false
def wordS (x : Str) : Bool := lettersS x 10
def wordV (v : V) : Bool := lettersV v 10
/-- a value whose type is known: a text of a small size, or something else -/
def Known (K : PySem.W.Frag) (G : Hp) (v : V) : Prop := (∃ x, v = .str x ∧ x.length ≤ 1000000) ∨ ((∀ x, v ≠ .str x) ∧ ∃ t, TyX K G v t ∧ PySem.W.kitOne K t (.type "str") = some false)
def spLetters (K : PySem.W.Frag) : Sp := fun vs G Q _ => ∃ (v : V) (m : Int), vs = [v, .int m] ∧ Known K G v ∧ ∀ G', Same G G' → Q (.bl (lettersV v m)) G'
def spIsWord (K : PySem.W.Frag) : Sp := fun vs G Q _ => ∃ (v : V), vs = [v] ∧ Known K G v ∧ ∀ G', Same G G' → Q (.bl (wordV v)) G'
theorem lettersV_other {v : V} {m : Int} (h : ∀ x, v ≠ .str x) : lettersV v m = false := by
  cases v with
  | str x => exact absurd rfl (h x)
  | _ => rfl
theorem big_line {n : Nat} (h : n ≤ 1000000) : n ≤ sizeLine := Nat.le_trans h (by decide)
theorem big_line' {n : Nat} (h : n ≤ 1000000) : n < sizeLine := Nat.lt_of_le_of_lt h (by decide)
theorem Same.fresh {q : Addr} {G G' : Hp} {o : HO} (k : Same G G') (h : G q = none) : Same G (upd G' q o) := fun b u e => by
  rw [upd_ne (ne_of_none e h)]
  exact k b u e
theorem take_get {α : Type} {l : List α} {i : Nat} {a : α} (h : l[i]? = some a) : l.take (i + 1) = l.take i ++ [a] := by
  obtain ⟨h1, h2⟩ := List.getElem?_eq_some_iff.mp h
  rw [List.take_succ, h]
  rfl
end Qh
set_option Elab.async false
set_option linter.all false
set_option maxRecDepth 100000
set_option maxHeartbeats 4000000
namespace K07
open PySem PySem.Spec PyProof.Rows L2 Qh
def top (i : Nat) : Stmt := PySem.Challenge.pw_quotehome_k07_whole_steps_in_a_row.main.body.getD i (.Pass ⟨0, 0, 0, 0⟩)
abbrev sPen : Stmt := top 80
abbrev sDraw : Stmt := top 81
abbrev sPick : Stmt := top 82
section
variable {P : Program} {w : World} {K : PySem.W.Frag} {mg : Str → Option Value} {base : Heap}
theorem scPen : FnScope ["_law_script"] ["_law_script"] (defScope sPen) := ⟨rfl, rfl, rfl, by decide +kernel, rfl, by decide +kernel, by decide +kernel⟩
theorem ok_pen (D : DefIn K mg "_law_pen" sPen) (B : Blt mg) : Ok P w K mg base "_law_pen" (defArgs sPen) ["_law_script"] 1 (spPen K) := by
  refine D.ok scPen (fun vs G Q E h => ?_) (fun _ _ _ _ _ _ us hl => match us, hl with | [_], _ => rfl) (fun f cdv A out t G vs Q E hr h => ?_)
  · obtain ⟨a, ns, rfl, _⟩ := h
    rfl
  · obtain ⟨a, ns, rfl, hS, k⟩ := h
    refine ⟨_, pss_one (ps_ret (pe_lst (pa_cons (pe_callTy call_list_of (by rfl) B.n_list bt_list (pa_cons (pe_slice sl_list (pv 0) po_none (po_some pe_int)) pa_nil)) (pa_cons pe_int (pa_cons pe_int pa_nil))))), ?_⟩
    refine ⟨_, rfl, 63, rfl, a, ns.map V.int, rfl, hS, fun q hq => ?_⟩
    refine ⟨q, _, rfl, .inl (SqL.of upd_same), fun l hl => ?_⟩
    refine ⟨by show 3 ≤ sizeLine; decide, fun p hp => ?_⟩
    have lq : l ≠ q := fun e => by rw [e, upd_same] at hl; cases hl
    have pl : p ≠ l := fun e => by rw [e, upd_same] at hp; cases hp
    have pq : p ≠ q := fun e => by rw [e, upd_ne lq.symm, upd_same] at hp; cases hp
    have nl : G l = none := by rw [upd_ne lq] at hl; exact hl
    have np : G p = none := by rw [upd_ne pl, upd_ne pq] at hp; exact hp
    have hcut : cutV (ns.map V.int) none (some 63) = (ns.take 63).map V.int := by
      unfold cutV
      rw [HT.sIx_none, show (some (63 : Int)) = some ((63 : Nat) : Int) from rfl, HT.sIx_nat, List.drop_zero, Nat.sub_zero, List.map_take]
      by_cases h : 63 ≤ (ns.map V.int).length
      · rw [Nat.min_eq_left h]
      · rw [Nat.min_eq_right (by omega), List.take_of_length_le (Nat.le_refl _), List.take_of_length_le (by omega)]
    refine k p l _ np (fun b o e => ?_) ⟨0, 0, ns.take 63, upd_same, ?_, pl.symm, Int.le_refl _, Int.le_refl _, Int.le_refl _⟩
    · rw [upd_ne (ne_of_none e np), upd_ne (ne_of_none e nl), upd_ne (ne_of_none e hq)]
      exact e
    · rw [upd_ne pl.symm, upd_same, hcut]
theorem scDraw : FnScope ["_law_pen_here", "_law_many", "_law_digit", "_law_at", "_law_cell", "_law_great", "_law_mixed"] ["_law_pen_here", "_law_many"] (defScope sDraw) := ⟨rfl, rfl, rfl, by decide +kernel, rfl, by decide +kernel, by decide +kernel⟩

theorem ok_draw (D : DefIn K mg "_law_draw" sDraw) (B : Blt mg) : Ok P w K mg base "_law_draw" (defArgs sDraw) ["_law_pen_here", "_law_many"] 1 spDraw := by
  refine D.ok scDraw (fun vs G Q E h => ?_) (fun _ _ _ _ _ _ us hl => match us, hl with | [_, _], _ => rfl) (fun f cdv A out t G vs Q E hr h => ?_)
  · obtain ⟨p, l, c, m, rfl, _⟩ := h
    rfl
  · obtain ⟨p, l, c, m, rfl, ⟨n, g, ns, hp, hl, lp, n0, nc, g0⟩, hc, m0, mm, k⟩ := h
    have hu64 := hr.units
    refine ⟨_, (pss_cons (ps_if (pt_cmpR op_gt (pe_ix ix_list (pv 0) pe_int (fun _ _ => rfl)) pe_int (nomark _)) (pss_cons (ps_set (i := 2) scDraw.nd rfl (by first | exact Or.inl rfl | exact Or.inr rfl) (pe_op op_mod (pe_callTy call_int1 (by rfl) B.n_int bt_int (pa_cons (pe_ix ix_list (pv 0) pe_int (fun _ _ => rfl)) pa_nil)) (pv 1)))
    (pss_cons (ps_asg (pe_op op_fdiv (pe_callTy call_int1 (by rfl) B.n_int bt_int (pa_cons (pe_ix ix_list (pv 0) pe_int (fun _ _ => rfl)) pa_nil)) (pv 1)) (pg_sub (pv 0) pe_int set_list))
    (pss_one (ps_ret (pv 2))))) pss_nil)
    (pss_cons (ps_set (i := 3) scDraw.nd rfl (by first | exact Or.inl rfl | exact Or.inr rfl) (pe_ix ix_list (pv 0) pe_int (fun _ _ => rfl)))
    (pss_cons (ps_asg (pe_op op_add (pv 3) pe_int) (pg_sub (pv 0) pe_int set_list))
    (pss_cons (ps_set (i := 4) scDraw.nd rfl (by first | exact Or.inl rfl | exact Or.inr rfl) (pe_op op_add (pe_op op_mul pe_int (pv 3)) pe_int))
    (pss_cons (ps_if (pt_cmpR (op_neD hu64) (pe_ix ix_list (pv 0) pe_int (fun _ _ => rfl)) (pe_lst pa_nil) (nomark _)) (pss_one (ps_set (i := 4) scDraw.nd rfl (by first | exact Or.inl rfl | exact Or.inr rfl) (pe_ix ix_list (pe_ix ix_list (pv 0) pe_int (fun _ _ => rfl)) (pe_op op_mod (pe_callTy call_int1 (by rfl) B.n_int bt_int (pa_cons (pv 3) pa_nil)) (pe_callB call_len (by rfl) B.n_len bt_len (pa_cons (pe_ix ix_list (pv 0) pe_int (fun _ _ => rfl)) pa_nil))) (fun _ _ => rfl)))) pss_nil)
    (pss_cons (ps_if (PW.pt (pw_and (pt_cmpR op_lt (pv 3) (pe_callB call_len (by rfl) B.n_len bt_len (pa_cons (pe_ix ix_list (pv 0) pe_int (fun _ _ => rfl)) pa_nil)) (nomark _)) (pw_and1 (pt_cmpR op_ge (pe_callB call_abs (by rfl) B.n_abs bt_abs (pa_cons (pv 4) pa_nil)) (pe_op op_pow pe_int pe_int) (nomark _))))) (pss_cons (ps_set (i := 5) scDraw.nd rfl (by first | exact Or.inl rfl | exact Or.inr rfl) (pe_op op_add (pe_op op_mul pe_int (pe_op op_sub (pe_callB call_abs (by rfl) B.n_abs bt_abs (pa_cons (pv 4) pa_nil)) (pe_op op_pow pe_int pe_int))) (pe_callTy call_int1 (by rfl) B.n_int bt_int (pa_cons (pe_cmpR op_lt (pv 4) pe_int (nomark _)) pa_nil))))
    (pss_cons (ps_asg (pe_op op_fdiv (pe_callTy call_int1 (by rfl) B.n_int bt_int (pa_cons (pv 5) pa_nil)) (pv 1)) (pg_sub (pv 0) pe_int set_list))
    (pss_one (ps_ret (pe_op op_mod (pe_callTy call_int1 (by rfl) B.n_int bt_int (pa_cons (pv 5) pa_nil)) (pv 1)))))) pss_nil)
    (pss_cons (ps_set (i := 6) scDraw.nd rfl (by first | exact Or.inl rfl | exact Or.inr rfl) (pe_op op_mod (pe_callTy call_int1 (by rfl) B.n_int bt_int (pa_cons (pe_op op_pow (pe_op op_add (pe_op op_add (pe_op op_mod (pe_callTy call_int1 (by rfl) B.n_int bt_int (pa_cons (pv 4) pa_nil)) pe_int) (pe_op op_mul pe_int (pv 3))) pe_int) pe_int) pa_nil)) pe_int))
    (pss_cons (ps_set (i := 6) scDraw.nd rfl (by first | exact Or.inl rfl | exact Or.inr rfl) (pe_op op_mod (pe_callTy call_int1 (by rfl) B.n_int bt_int (pa_cons (pe_op op_pow (pe_op op_add (pe_op op_add (pe_op op_mul (pv 6) (pe_op op_add (pe_op op_mul pe_int (pv 3)) pe_int)) (pe_op op_mul (pe_op op_mul pe_int (pv 3)) (pv 3))) pe_int) pe_int) pa_nil)) pe_int))
    (pss_one (ps_ret (pe_op op_mod (pe_callTy call_int1 (by rfl) B.n_int bt_int (pa_cons (pe_op op_fdiv (pv 6) pe_int) pa_nil)) (pv 1)))))))))))), ?_⟩
    refine ⟨_, rfl, p, _, _, _, rfl, rfl, SqL.of hp, rfl, _, _, rfl, rfl, _, rfl, ?_⟩
    refine ite2 (fun hg => ?_) (fun hg => ?_)
    · have hg := of_decide_eq_true hg
      refine ⟨_, rfl, p, _, _, _, rfl, rfl, SqL.of hp, rfl, .inl ⟨_, rfl, _, rfl, _, _, rfl, rfl, m0, ?_⟩⟩
      refine ⟨_, rfl, p, _, _, _, rfl, rfl, SqL.of hp, rfl, .inl ⟨_, rfl, _, rfl, _, _, rfl, rfl, ⟨m0, by omega⟩, _, rfl, p, _, _, 2, rfl, rfl, hp, rfl, ?_⟩⟩
      refine ⟨_, rfl, ?_⟩
      refine k (g % m) _ (mod_lt g m m0).1 (mod_lt g m m0).2 Kp.self ⟨n, g / m, ns, upd_same, ?_, lp, n0, by omega, Int.ediv_nonneg g0 (by omega)⟩
      rw [upd_ne lp]
      exact hl
    · -- at = pen[1]; pen[1] = at + 1; cell = ..
      refine ⟨_, rfl, p, _, _, _, rfl, rfl, SqL.of hp, rfl, ?_⟩
      refine ⟨_, rfl, _, _, rfl, rfl, _, rfl, p, _, _, 1, rfl, rfl, hp, rfl, ?_⟩
      have hp1 : (upd G p (.lst [.ref l, .int (n + 1), .int g])) p = some (.lst [.ref l, .int (n + 1), .int g]) := upd_same
      have hl1 : (upd G p (.lst [.ref l, .int (n + 1), .int g])) l = some (.lst (ns.map V.int)) := by
        rw [upd_ne lp]
        exact hl
      refine ⟨_, rfl, _, _, rfl, rfl, .inl ⟨by decide, by decide⟩, _, _, rfl, rfl, ?_⟩
      -- if pen[0] != []
      refine ⟨_, rfl, p, _, _, _, rfl, rfl, SqL.of hp1, rfl, by show 0 ≤ sizeLine; decide, fun q hq => ?_⟩
      have lq : l ≠ q := ne_of_none hl1 hq
      have pq : p ≠ q := ne_of_none hp1 hq
      have hl2 : (upd (upd G p (.lst [.ref l, .int (n + 1), .int g])) q (.lst [])) l = some (.lst (ns.map V.int)) := by
        rw [upd_ne lq]
        exact hl1
      have hp2 : (upd (upd G p (.lst [.ref l, .int (n + 1), .int g])) q (.lst [])) p = some (.lst [.ref l, .int (n + 1), .int g]) := by
        rw [upd_ne pq]
        exact hp1
      have nq : G q = none := by
        rw [upd_ne pq.symm] at hq
        exact hq
      have kp2 : Kp p G (upd (upd G p (.lst [.ref l, .int (n + 1), .int g])) q (.lst [])) := Kp.fresh Kp.self nq
      have hq2 : (upd (upd G p (.lst [.ref l, .int (n + 1), .int g])) q (.lst [])) q = some (.lst []) := upd_same
      refine ⟨.list (ns.map PyData.int), .list [], .lst (SqL.of hl2) (dp_ints ns), .lst (SqL.of hq2) .nil, shaped_ints ns, rfl, _, rfl, ?_⟩
      rw [eqv_nil_r]
      refine ite2 (fun hne => ?yes) (fun hne => ?no)
      case' yes =>
        have hz : 0 < (ns.map V.int).length := by
          cases ns with
          | nil => exact absurd hne (by decide)
          | cons a r => exact Nat.succ_pos _
        obtain ⟨v, hv, hm⟩ := mod_at (xs := ns.map V.int) n hz
        obtain ⟨cell, rfl⟩ := mem_ints hm
        refine ⟨_, rfl, p, _, _, _, rfl, rfl, SqL.of hp2, rfl, _, rfl, .inl ⟨_, rfl, ?_⟩⟩
        refine ⟨_, rfl, p, _, _, _, rfl, rfl, SqL.of hp2, rfl, .ref l, _, rfl, .inl ⟨_, SqL.of hl2, rfl⟩, _, _, rfl, rfl, by omega, l, _, _, _, rfl, rfl, SqL.of hl2, hv, ?_⟩
      all_goals
        refine ⟨_, rfl, _, rfl, p, _, _, _, rfl, rfl, SqL.of hp2, rfl, .ref l, _, rfl, .inl ⟨_, SqL.of hl2, rfl⟩, _, _, rfl, rfl, _, rfl, ?_⟩
        refine ite2 (fun _ => ?_) (fun _ => ?_)
        case' _ =>
          refine ⟨_, rfl, _, rfl, _, _, rfl, rfl, ⟨by decide, by decide, by decide⟩, _, _, rfl, rfl, _, rfl, ?_⟩
          rw [pow18]
          refine ite2 (fun hbig => ?_) (fun hbig => ?_)
          case _ =>
            have hbig := of_decide_eq_true hbig
            refine ⟨_, rfl, _, rfl, _, _, rfl, rfl, ⟨by decide, by decide, by decide⟩, _, _, rfl, rfl, _, _, rfl, rfl, .inl ⟨by decide, by decide⟩, _, rfl, _, _, rfl, rfl, .inr ⟨_, rfl, _, _, rfl, rfl, ?_⟩⟩
            refine ⟨_, rfl, .inl ⟨_, rfl, _, rfl, _, _, rfl, rfl, ⟨m0, by omega⟩, _, rfl, p, _, _, 2, rfl, rfl, hp2, rfl, ?_⟩⟩
            refine ⟨_, rfl, .inl ⟨_, rfl, _, rfl, _, _, rfl, rfl, m0, ?_⟩⟩
            refine k _ _ (mod_lt _ m m0).1 (mod_lt _ m m0).2 (Kp.trans kp2 Kp.self) ⟨n + 1, _, ns, upd_same, ?_, lp, by omega, by omega, Int.ediv_nonneg ?_ (by omega)⟩
            · rw [upd_ne lp]
              exact hl2
            · rw [pow18]
              exact great_nonneg _ _ hbig
        all_goals
          refine ⟨_, rfl, .inl ⟨_, rfl, _, _, rfl, rfl, by show (0 : Int) < _; decide, _, rfl, _, _, rfl, rfl, .inl ⟨by decide, by decide⟩, _, _, rfl, rfl, _, _, rfl, rfl, _, _, rfl, rfl, ⟨by decide, by decide, ?_⟩, .inl ⟨_, rfl, _, _, rfl, rfl, by show (0 : Int) < _; decide, ?_⟩⟩⟩
          · omega
          refine ⟨_, rfl, _, rfl, _, _, rfl, rfl, .inl ⟨by decide, by decide⟩, _, _, rfl, rfl, _, _, rfl, rfl, .inr ⟨by omega, by omega⟩, ?_⟩
          refine ⟨_, rfl, _, _, rfl, rfl, .inl ⟨by decide, by decide⟩, _, rfl, _, _, rfl, rfl, .inr ⟨by omega, by omega⟩, _, _, rfl, rfl, _, _, rfl, rfl, _, _, rfl, rfl, ⟨by decide, by decide, ?_⟩, .inl ⟨_, rfl, _, _, rfl, rfl, by show (0 : Int) < _; decide, ?_⟩⟩
          · exact draw_bound _ _ _ _ _ ⟨(mod_lt _ _ (by decide)).1, Int.lt_trans (mod_lt _ _ (by decide)).2 (by decide)⟩ ⟨n0, by omega⟩ (by decide) (by decide) (by decide)
          refine ⟨_, rfl, _, _, rfl, rfl, ⟨by decide, by decide⟩, .inl ⟨_, rfl, _, rfl, _, _, rfl, rfl, m0, ?_⟩⟩
          exact k _ _ (mod_lt _ m m0).1 (mod_lt _ m m0).2 kp2 ⟨n + 1, g, ns, hp2, hl2, lp, by omega, by omega, g0⟩
theorem scPick : FnScope ["_law_pen_here", "_law_some_here"] ["_law_pen_here", "_law_some_here"] (defScope sPick) := ⟨rfl, rfl, rfl, by decide +kernel, rfl, by decide +kernel, by decide +kernel⟩
theorem ok_pick (D : DefIn K mg "_law_pick" sPick) (B : Blt mg) (F__law_draw : Ok P w K mg base "_law_draw" (defArgs sDraw) ["_law_pen_here", "_law_many"] 1 spDraw) : Ok P w K mg base "_law_pick" (defArgs sPick) ["_law_pen_here", "_law_some_here"] 2 (spPick K) := by
  refine D.ok scPick (fun vs G Q E h => ?_) (fun _ _ _ _ _ _ us hl => match us, hl with | [_, _], _ => rfl) (fun f cdv A out t G vs Q E hr h => ?_)
  · obtain ⟨p, l, a, c, xs, rfl, _⟩ := h
    rfl
  · obtain ⟨p, l, a, c, xs, rfl, hP, hc, ha, hS, h0, h1, k⟩ := h
    refine ⟨_, pss_one (ps_ret (pe_ix ix_list (pv 1) (pe_own F__law_draw (hr.mono (by decide)) takes0 (pa_cons (pv 0) (pa_cons (pe_callB call_len (by rfl) B.n_len bt_len (pa_cons (pv 1) pa_nil)) pa_nil))) (fun _ _ => rfl))), ?_⟩
    refine ⟨_, rfl, _, rfl, _, rfl, .ref a, _, rfl, .inl ⟨xs, hS, rfl⟩, p, l, c, (xs.length : Int), rfl, hP, hc, by omega, by omega, fun d G' d0 dm kp P' => ?_⟩
    obtain ⟨v, hv, _, hm⟩ := at_lt d d0 dm
    exact ⟨a, xs, d, v, rfl, rfl, kp.seq ha hS, hv, k v G' hm kp P'⟩
end
end K07
set_option Elab.async false
set_option linter.all false
set_option maxRecDepth 100000
set_option maxHeartbeats 4000000
/-! Texts of letters by isascii, isalpha, islower. -/
namespace Qh
open PySem PySem.Spec PyProof.Rows L2
theorem uni128 : ∀ c : Fin 128, (Unicode.isAlpha c.val && !(Unicode.isUpper c.val || Unicode.isTitle c.val)) = ltr c.val ∧ (ltr c.val = true → Unicode.isLower c.val = true) := by decide +kernel
theorem uni_all (l : List Nat) (h : l.all (fun c => decide (c < 128)) = true) : (l.all Unicode.isAlpha && !l.any fun c => Unicode.isUpper c || Unicode.isTitle c) = l.all ltr := by
  induction l with
  | nil => rfl
  | cons a r ih =>
    rw [List.all_cons, Bool.and_eq_true] at h
    have ha := of_decide_eq_true h.1
    have h1 := (uni128 ⟨a, ha⟩).1
    have ih := ih h.2
    simp only [List.all_cons, List.any_cons, Bool.not_or]
    rw [← ih, ← h1]
    simp only [Bool.not_or]
    cases Unicode.isAlpha a <;> cases Unicode.isUpper a <;> cases Unicode.isTitle a <;> simp
theorem ltr_ascii (c : Nat) (h : ltr c = true) : c < 128 := by
  unfold ltr at h
  simp at h
  omega
theorem letters_now (x : Str) : (if Txt.isascii x = true then (if Txt.isalpha x = true then Txt.islower x else false) else false) = (decide (1 ≤ (x.length : Int)) && x.cps.toList.all ltr) := by
  have e1 : Txt.isascii x = x.cps.toList.all (fun c => decide (c < 128)) := by
    unfold Txt.isascii
    rw [← Array.all_toList]
  have e2 : Txt.isalpha x = (decide (x.length > 0) && x.cps.toList.all Unicode.isAlpha) := by
    unfold Txt.isalpha
    rw [← Array.all_toList]
  have e3 : Txt.islower x = (x.cps.toList.any Unicode.isLower && !x.cps.toList.any fun c => Unicode.isUpper c || Unicode.isTitle c) := by
    unfold Txt.islower
    rw [← Array.any_toList, ← Array.any_toList]
  have el : x.length = x.cps.toList.length := by simp [Str.length]
  rw [e1, e2, e3, el]
  generalize x.cps.toList = l
  cases ha : l.all (fun c => decide (c < 128)) with
  | false =>
    have : l.all ltr = false := by
      cases hl : l.all ltr with
      | false => rfl
      | true =>
        rw [List.all_eq_true] at hl
        rw [← ha]
        symm
        rw [List.all_eq_true]
        exact fun c hc => decide_eq_true (ltr_ascii c (hl c hc))
    rw [this]
    simp
  | true =>
    have h := uni_all l ha
    cases l with
    | nil => rfl
    | cons a r =>
      have hlow : (a :: r).all ltr = true → (a :: r).any Unicode.isLower = true := fun hh => by
        rw [List.all_eq_true] at hh
        rw [List.any_eq_true]
        have h1 := hh a (List.mem_cons_self)
        exact ⟨a, List.mem_cons_self, (uni128 ⟨a, ltr_ascii a h1⟩).2 h1⟩
      rw [← h] at hlow ⊢
      rw [if_pos rfl]
      have p1 : decide ((a :: r).length > 0) = true := decide_eq_true (Nat.succ_pos _)
      have p2 : decide (1 ≤ (((a :: r).length : Nat) : Int)) = true := by
        refine decide_eq_true ?_
        have := Nat.succ_pos r.length
        rw [List.length_cons]
        omega
      rw [p1, p2]
      revert hlow
      generalize (a :: r).all Unicode.isAlpha = p
      generalize (a :: r).any Unicode.isLower = q
      generalize ((a :: r).any fun c => Unicode.isUpper c || Unicode.isTitle c) = s
      intro hlow
      cases p <;> cases q <;> cases s <;> simp at hlow ⊢
end Qh
set_option Elab.async false
set_option linter.all false
set_option maxRecDepth 100000
set_option maxHeartbeats 4000000
namespace K07
open PySem PySem.Spec PyProof.Rows L2 Qh
abbrev sLetters : Stmt := top 12
abbrev sIsWord : Stmt := top 13
section
variable {P : Program} {w : World} {K : PySem.W.Frag} {mg : Str → Option Value} {base : Heap}
theorem scLetters : FnScope ["value", "most"] ["value", "most"] (defScope sLetters) := ⟨rfl, rfl, rfl, by decide +kernel, rfl, by decide +kernel, by decide +kernel⟩
theorem ok_letters (D : DefIn K mg "is_letters" sLetters) (B : Blt mg) : Ok P w K mg base "is_letters" (defArgs sLetters) ["value", "most"] 1 (spLetters K) := by
  refine D.ok scLetters (fun vs G Q E h => ?_) (fun _ _ _ _ _ _ us hl => match us, hl with | [_, _], _ => rfl) (fun f cdv A out t G vs Q E hr h => ?_)
  · obtain ⟨v, m, rfl, _⟩ := h
    rfl
  · obtain ⟨v, m, rfl, hv, k⟩ := h
    refine ⟨_, (pss_cons (ps_if (PW.pt (pw_or (pt_not (pt_val (pe_callB call_isi (by rfl) B.n_isinstance bt_isinstance (pa_cons (pv 0) (pa_cons (pe_bltn (v := .ty "str") (by rfl) B.n_str bt_str rfl) pa_nil))))) (pw_or1 (pt_cmpR op_gt (pe_callB call_len (by rfl) B.n_len bt_len (pa_cons (pv 0) pa_nil)) (pv 1) (nomark _))))) (pss_one (ps_ret pe_bl)) pss_nil)
      (pss_one (ps_ret (pe_and (pe_bm0 PySem.F.plainAttrs_str PySem.F.slot_str_isascii PySem.F.type_str_isascii mt_isascii (pv 0)) (pe_and (pe_bm0 PySem.F.plainAttrs_str PySem.F.slot_str_isalpha PySem.F.type_str_isalpha mt_isalpha (pv 0)) (pe_one (pe_bm0 PySem.F.plainAttrs_str PySem.F.slot_str_islower PySem.F.type_str_islower mt_islower (pv 0)))))))), ?_⟩
    rcases hv with ⟨x, rfl, hx⟩ | ⟨hno, ty, hty, hk⟩
    · refine ⟨_, rfl, _, _, _, _, _, rfl, .ty _, .base (.str x), kit_ty (r := true) (by decide +kernel), _, rfl, ?_⟩
      refine iteF ?_
      refine ⟨_, rfl, .str x, x.length, rfl, ⟨big_line hx, rfl⟩, _, rfl, _, _, rfl, rfl, _, rfl, ?_⟩
      have hk := k G (Same.refl G)
      have e : lettersV (.str x) m = (decide ((x.length : Int) ≤ m) && (decide (1 ≤ (x.length : Int)) && x.cps.toList.all ltr)) := by
        show lettersS x m = _
        unfold lettersS
        cases decide (1 ≤ (x.length : Int)) <;> cases decide ((x.length : Int) ≤ m) <;> rfl
      rw [e, ← letters_now] at hk
      refine ite2 (fun h1 => ?_) (fun h1 => ?_)
      · have h1 : decide ((x.length : Int) ≤ m) = false := by
          have := of_decide_eq_true h1
          exact decide_eq_false (by omega)
        rw [h1] at hk
        exact hk
      · have h1 : decide ((x.length : Int) ≤ m) = true := by
          have : ¬ ((x.length : Int) > m) := fun z => h1 (decide_eq_true z)
          exact decide_eq_true (by omega)
        rw [h1, Bool.true_and] at hk
        refine ⟨_, rfl, rfl, x, rfl, rfl, trivial, _, rfl, ?_⟩
        refine ite2 (fun h2 => ?_) (fun h2 => ?_)
        · rw [if_pos h2] at hk
          refine ⟨_, rfl, rfl, x, rfl, rfl, trivial, _, rfl, ?_⟩
          refine ite2 (fun h3 => ?_) (fun h3 => ?_)
          · rw [if_pos h3] at hk
            exact ⟨_, rfl, rfl, x, rfl, rfl, trivial, hk⟩
          · rw [if_neg h3] at hk
            exact hk
        · rw [if_neg h2] at hk
          exact hk
    · refine ⟨_, rfl, _, _, _, _, _, rfl, .ty _, hty, hk, _, rfl, ?_⟩
      refine iteT ?_
      have h := k G (Same.refl G)
      rw [lettersV_other hno] at h
      exact h
theorem scIsWord : FnScope ["value"] ["value"] (defScope sIsWord) := ⟨rfl, rfl, rfl, by decide +kernel, rfl, by decide +kernel, by decide +kernel⟩
theorem ok_isWord (D : DefIn K mg "is_word" sIsWord) (hM : ∃ t, mg "MOST_LETTERS" = some (.int 10 t)) (F_is_letters : Ok P w K mg base "is_letters" (defArgs sLetters) ["value", "most"] 1 (spLetters K)) : Ok P w K mg base "is_word" (defArgs sIsWord) ["value"] 2 (spIsWord K) := by
  refine D.ok scIsWord (fun vs G Q E h => ?_) (fun _ _ _ _ _ _ us hl => match us, hl with | [_], _ => rfl) (fun f cdv A out t G vs Q E hr h => ?_)
  · obtain ⟨v, rfl, _⟩ := h
    rfl
  · obtain ⟨v, rfl, hv, k⟩ := h
    obtain ⟨tk, hM⟩ := hM
    refine ⟨_, pss_one (ps_ret (pe_own F_is_letters (hr.mono (by decide)) takes0 (pa_cons (pv 0) (pa_cons (pe_glob (v := .int 10) rfl hM ⟨_, rfl⟩) pa_nil)))), ?_⟩
    exact ⟨_, rfl, v, 10, rfl, hv, k⟩
end
end K07
set_option Elab.async false
set_option linter.all false
set_option maxRecDepth 100000
set_option maxHeartbeats 4000000
/-! Own errors with one field or more, made by their own __init__. -/
namespace Qh
open PySem PySem.Spec PyProof.Rows L2 TL
/-- the class at C as the top has left it -/
structure ErrC (K : PySem.W.Frag) (mg : Str → Option Value) (x : Str) (C : Addr) : Prop where
  g : mg x = some (.ref C)
  o : OexC K C
  xf : XfC K C
  ec : ExcC K C
/-- C.__init__(self, f): self.f = f -/
def spErr1 (C : Addr) (f : Str) : Sp := fun vs G Q _ => ∃ (a : Addr) (v : V), vs = [.ref a, v] ∧ G a = some (exo a C none) ∧ ∀ d, G d = none → d ≠ a → Q .non (upd (upd G d (exd d [(f, v)])) a (exo a C (some d)))
structure Err1 (P : Program) (w : World) (K : PySem.W.Frag) (mg : Str → Option Value) (base : Heap) (x f : Str) (C : Addr) : Prop where
  c : ErrC K mg x C
  no : PySem.W.findIn K (.ref C) f = some none
  init : ∃ (fI : Addr) (fd : FuncData), PySem.W.findIn K (.ref C) "__init__" = some (some (.ref fI)) ∧ PySem.W.typeIn K (.ref fI) = some (.type "function") ∧ Binds K fd ["self", f] [] ∧
    FnOk P w K mg base (L2.CX P w) 1 fI fd ["self", f] (spErr1 C f)
theorem err_heap {G : Hp} {a d C : Addr} {u : HO} {fs : List (Str × V)} (ha : G a = none) (hd : d ≠ a) :
    upd (del (upd (upd (upd G a (exo a C none)) d (exd d fs)) a (exo a C (some d))) a) d u = upd G d u := by
  funext b
  by_cases hb : b = d
  · subst hb
    rw [upd_same, upd_same]
  · rw [upd_ne hb, upd_ne hb]
    by_cases hba : b = a
    · subst hba
      rw [del_same, ha]
    · rw [del_ne hba, upd_ne hba, upd_ne hb, upd_ne hba]
section
variable {X : Cx} {x f : Str} {C : Addr} {e : Expr} {te : TE} {p pos : Pos}
end
/-! ### parts between blanks -/
theorem findIdx_some {α : Type} {p : α → Bool} : ∀ {xs : List α} {i : Nat} {a : α}, xs[i]? = some a → p a = true → (∀ (j : Nat) (b : α), j < i → xs[j]? = some b → p b = false) → xs.findIdx? p = some i
  | [], i, a, h, _, _ => by simp at h
  | x :: r, 0, a, h, ha, _ => by
    have e : x = a := by simpa using h
    rw [List.findIdx?_cons, e, ha]
    rfl
  | x :: r, i + 1, a, h, ha, hb => by
    have h0 : p x = false := hb 0 x (by omega) (by simp)
    have ih := findIdx_some (p := p) (xs := r) (i := i) (a := a) (by simpa using h) ha fun j b hj hjb => hb (j + 1) b (by omega) (by simpa using hjb)
    rw [List.findIdx?_cons, h0, ih]
    rfl
theorem findIdx_none {α : Type} {p : α → Bool} : ∀ {xs : List α}, (∀ (j : Nat) (b : α), xs[j]? = some b → p b = false) → xs.findIdx? p = none
  | [], _ => rfl
  | x :: r, hb => by
    have h0 : p x = false := hb 0 x (by simp)
    have ih := findIdx_none (p := p) (xs := r) fun j b hjb => hb (j + 1) b (by simpa using hjb)
    rw [List.findIdx?_cons, h0, ih]
    rfl
theorem map_at {α β : Type} {f : α → β} {l : List α} {i : Nat} {b : β} (h : (l.map f)[i]? = some b) : ∃ a, l[i]? = some a ∧ b = f a := by
  rw [List.getElem?_map] at h
  cases e : l[i]? with
  | none => rw [e] at h; cases h
  | some a => rw [e] at h; exact ⟨a, rfl, (Option.some.inj h).symm⟩

/-! ### texts put together -/
theorem joinL_nil : ∀ ls : List (List Nat), joinL [] ls = ls.flatten
  | [] => rfl
  | [p] => by simp [joinL]
  | p :: q :: r => by
    have ih := joinL_nil (q :: r)
    show p ++ ([] ++ joinL [] (q :: r)) = _
    rw [ih]
    simp
def nothing : Str := Str.ofString ""
theorem tl_nothing : tl nothing = [] := by decide +kernel
theorem tl_glue (ys : List Str) : tl (Txt.join nothing ys) = (ys.map tl).flatten := by
  rw [join_eq, tl_join, tl_nothing, joinL_nil]
theorem glue_len {ys : List Str} : (Txt.join nothing ys).length = (ys.map (·.length)).sum := by
  rw [len_tl, tl_glue, List.length_flatten, List.map_map]
  exact congrArg List.sum (List.map_congr_left fun y _ => (len_tl y).symm)
section
variable {X : Cx}
end
def told (ps : List Str) : PyData := .tuple [.str (Str.ofString "told"), .tuple (ps.map PyData.str)]
end Qh
set_option Elab.async false
set_option linter.all false
set_option maxRecDepth 100000
set_option maxHeartbeats 4000000
/-! New objects, told by what stands there and what stays; values that are no texts; repr of texts. -/
namespace Qh
open PySem PySem.Spec PyProof.Rows L2 TL
section
variable {X : Cx} {es : List Expr} {t : TA} {pos : Pos}
def nTup (t : TA) : TE := fun σ G Q => t σ G fun xs G1 => xs.length ≤ sizeLine ∧ ∀ p G', G1 p = none → Same G1 G' → G' p = some (.tup xs) → Q (.ref p) G'
def nLst (t : TA) : TE := fun σ G Q => t σ G fun xs G1 => xs.length ≤ sizeLine ∧ ∀ p G', G1 p = none → Same G1 G' → G' p = some (.lst xs) → Q (.ref p) G'
theorem pn_tup {x1} (h : PA X es t) : PE X (.Tuple es x1 pos) (nTup t) := by
  constructor
  intro pins s σ G Q I hq
  refine wpAny_Tuple_spliced (thn (h.run pos pins s σ G _ I hq) ?_)
  rintro us s1 ⟨xs, G1, I1, r, z, q⟩
  refine ⟨r.length ▸ z, ?_⟩
  have hf : G1 s1.heap.objs.size = none := I1.hok.fresh (Nat.le_refl _)
  refine ⟨.ref s1.heap.objs.size, L2.upd G1 s1.heap.objs.size (.tup xs), I1.laid (t' := s1.toks) (fun b u e => Heap.get?_push_of_some _ e) (Nat.le_refl _) ?_, rfl, q _ _ hf (Same.new hf) upd_same⟩
  exact ⟨z, us, r, ⟨_, Heap.get?_push_size _ rfl, rfl, _, rfl⟩⟩
theorem pn_lst (h : PA X es t) : PE X (.List es pos) (nLst t) := by
  constructor
  intro pins s σ G Q I hq
  refine wpAny_List_spliced (thn (h.run pos pins s σ G _ I hq) ?_)
  rintro us s1 ⟨xs, G1, I1, r, z, q⟩
  refine ⟨r.length ▸ z, ?_⟩
  have hf : G1 s1.heap.objs.size = none := I1.hok.fresh (Nat.le_refl _)
  refine ⟨.ref s1.heap.objs.size, L2.upd G1 s1.heap.objs.size (.lst xs), I1.laid (t' := s1.toks) (fun b u e => Heap.get?_push_of_some _ e) (Nat.le_refl _) ?_, rfl, q _ _ hf (Same.new hf) upd_same⟩
  exact ⟨z, us, 0, r, Heap.get?_push_size _ rfl⟩
theorem opr_imp {f : Value → Value → Sem Value} {r r' : R2} (h : OpR X f r) (k : ∀ x y G Q, r' x y G Q → r x y G Q) : OpR X f r' := fun pins s σ G x y v u Q I rx ry q => h pins s σ G x y v u Q I rx ry (k x y G Q q)
theorem callr_imp {f : Value} {r r' : List V → Hp → VK → Prop} (h : CallR X f r) (k : ∀ xs G Q, r' xs G Q → r xs G Q) : CallR X f r' := fun pins s σ G xs us Q I r q => h pins s σ G xs us Q I r (k xs G Q q)
def nCat : R2 := fun x y G Q => ∃ l b xs zs, x = .ref l ∧ y = .ref b ∧ G l = some (.lst xs) ∧ G b = some (.lst zs) ∧ xs.length + zs.length ≤ sizeLine ∧ ∀ p G', G p = none → Same G G' → G' p = some (.lst (xs ++ zs)) → Q (.ref p) G'
theorem on_cat : OpR X (binaryOp .Add) nCat := opr_imp op_cat fun x y G Q ⟨l, b, xs, zs, e1, e2, h1, h2, hz, q⟩ => ⟨l, b, xs, zs, e1, e2, h1, h2, hz, fun p hp => q p _ hp (Same.new hp) upd_same⟩
def nRep : R2 := fun x y G Q => ∃ l k xs, x = .ref l ∧ y = .int k ∧ G l = some (.lst xs) ∧ -(2 ^ 63) ≤ k ∧ k < 2 ^ 63 ∧ xs.length * k.toNat ≤ sizeLine ∧ ∀ p G', G p = none → Same G G' → G' p = some (.lst (List.replicate k.toNat xs).flatten) → Q (.ref p) G'
theorem on_rep : OpR X (binaryOp .Mult) nRep := opr_imp op_rep fun x y G Q ⟨l, k, xs, e1, e2, h1, h2, h3, hz, q⟩ => ⟨l, k, xs, e1, e2, h1, h2, h3, hz, fun p hp => q p _ hp (Same.new hp) upd_same⟩
def nList (K : PySem.W.Frag) : List V → Hp → VK → Prop := fun vs G Q => ∃ p ys, vs = [.ref p] ∧ (SqL K G p ys ∨ SqT K G p ys) ∧ ∀ l G', G l = none → Same G G' → G' l = some (.lst ys) → Q (.ref l) G'
theorem cn_list : CallR X (.type "list") (nList X.K) := callr_imp call_list_of fun xs G Q ⟨p, ys, e, h, q⟩ => ⟨p, ys, e, h, fun l hl => q l _ hl (Same.new hl) upd_same⟩
/-- tuple(a list) -/
def nTuple (K : PySem.W.Frag) : List V → Hp → VK → Prop := fun vs G Q => ∃ p ys, vs = [.ref p] ∧ SqL K G p ys ∧ ∀ l G', G l = none → Same G G' → G' l = some (.tup ys) → Q (.ref l) G'
theorem cn_tuple : CallR X (.type "tuple") (nTuple X.K) := callr_imp call_tuple_of fun xs G Q ⟨p, ys, e, h, q⟩ => ⟨p, ys, e, .inl ⟨h, fun l hl => q l _ hl (Same.new hl) upd_same⟩⟩
end
/-! ### what is read stays -/
mutual
theorem dp_same {K : PySem.W.Frag} {G G' : Hp} (s : Same G G') : ∀ {v : V} {d : PyData}, Dp K G v d → Dp K G' v d
  | _, _, .non => .non
  | _, _, .bl b => .bl b
  | _, _, .int i => .int i
  | _, _, .str x => .str x
  | _, _, .lst h r => .lst (s.seq h) (dps_same s r)
  | _, _, .tup h r => .tup (by
      rcases h with (h | ⟨o, h⟩) | h
      · exact .inl (.inl (s _ _ h))
      · exact .inl (.inr ⟨o, s _ _ h⟩)
      · exact .inr h) (dps_same s r)
theorem dps_same {K : PySem.W.Frag} {G G' : Hp} (s : Same G G') : ∀ {vs : List V} {ds : List PyData}, DpAll K G vs ds → DpAll K G' vs ds
  | _, _, .nil => .nil
  | _, _, .cons h r => .cons (dp_same s h) (dps_same s r)
end
/-- no text, of a known type -/
def Odd (K : PySem.W.Frag) (G : Hp) (v : V) : Prop := (∀ x, v ≠ .str x) ∧ ((v = .non ∨ (∃ b, v = .bl b) ∨ ∃ i, v = .int i) ∨ ∃ a o, v = .ref a ∧ G a = some o ∧ ((∃ xs, o = .lst xs) ∨ (∃ xs, o = .tup xs) ∨ ∃ kvs, o = .dK kvs))
theorem Odd.same {K : PySem.W.Frag} {G G' : Hp} {v : V} (h : Odd K G v) (s : Same G G') : Odd K G' v := by
  obtain ⟨h1, h2 | ⟨a, o, e, ha, h3⟩⟩ := h
  · exact ⟨h1, .inl h2⟩
  · exact ⟨h1, .inr ⟨a, o, e, s _ _ ha, h3⟩⟩
/-! ### repr of a tuple of texts -/
/-! ### what is heard of words put together -/
end Qh
set_option Elab.async false
set_option linter.all false
set_option maxRecDepth 100000
set_option maxHeartbeats 4000000
/-! Own ==, !=, str, repr of instances with a dict of their own. -/
namespace Qp
open PySem PySem.Spec PyProof.Rows L2 TL Qh SlX
section
variable {prog : Program} {w : World} {A : Around} {E : Value → Shared → Prop} {s : Shared} {K : PySem.W.Frag} {x C f L : Addr} {h₀ : Heap} {m : Str → Option Value} {ox : Obj} {od : Option Obj} {b tb : Value}
theorem ifBound_B {M : Model} {name : Str} {id : String} {args : List Value} {Q : Option Value → Shared → Prop} (X : K.In s.heap) (I : PySem.W.InstAt s.heap x ox C od) (hs : PySem.W.findIn K (.ref C) name = some (some (.builtin id)))
    (hb : ∀ self, bindSpecial (.builtin id) self = pure (.builtin id, [self])) (h : wpAny M A (call (.builtin id) (.ref x :: args)) (fun v => Q (some v)) E s) : wpAny M A (callSpecialIfBound? (.ref x) name args) Q E s := by
  simp only [callSpecialIfBound?, bindSpecialIfBound?]
  refine wpAny_holding (wpAny_bind (wpAny_bind (wpAny_bind (I.type.here ((PySem.W.looks_findIn X hs).here ?_)))))
  refine wpAny_bind (wpAny_askSetting (wpAny_ite ?_))
  have fin : wpAny M A (call (.builtin id) ([.ref x] ++ args) >>= fun v => pure (some v)) Q E s := wpAny_bind (wpAny_mono h (fun v s' h' => wpAny_pure h') fun _ _ h' => h')
  split
  · exact wpAny_bind (wpAny_of_eq (hb _) (wpAny_pure (by exact fin)))
  · exact wpAny_tryCatch (wpAny_bind (wpAny_of_eq (hb _) (wpAny_pure (by exact fin))))
theorem entry_ne {Q : Fin → Shared → Prop} (hu : A.units < cLine) (X : K.In s.heap) (I : PySem.W.InstAt s.heap x ox C od) (he : PySem.W.findIn K (.ref C) "__eq__" = some (some (.ref f))) (hf : PySem.W.isFn K (.ref f) = true)
    (h : wpAny (model prog w) A (call (.ref f) [.ref x, b]) (fun v s' => ∃ k, v = .bool k ∧ Q (.done (.ret (.bool (!k)))) s') E s) : wpAny (model prog w) A (Builtin.«object.__ne__» ⟨[.ref x, b], []⟩) Q E s := by
  unfold Builtin.«object.__ne__»
  refine wpAny_bind (m := slotArgs "__ne__" 1 _) (wpAny_pure ?_)
  refine wpAny_bind (m := cRoomFor _ _) (wpAny_cRoomFor hu ?_)
  refine wpAny_bind (m := callSpecialIfBound? (.ref x) (Str.ofString "__eq__") _) (PySem.W.ifBound_K X I he hf (wpAny_mono h (fun r s' hr => ?_) fun _ _ y => y))
  obtain ⟨k, rfl, hq⟩ := hr
  repeat (first | exact hq | exact wpAny_pure hq | exact wpAny_truthy_bool hq | (refine wpAny_bind (m := truthy (.bool _)) (wpAny_truthy_bool ?_)) | wp_step)
theorem ne_K {Q : Value → Shared → Prop} (hu : A.units + 1 < cLine) (F : Fr h₀ L s.heap m) (X₀ : K.In h₀) (I : PySem.W.InstAt s.heap x ox C od) (hb : PySem.W.Looks (model prog w) s.heap (typeOf b) tb) (hn : PySem.W.notFirst K C tb = true)
    (hm : PySem.W.mroIn K C (.type "object") = some true) (hs : PySem.W.findIn K (.ref C) "__ne__" = some (some (.builtin "object.__ne__"))) (he : PySem.W.findIn K (.ref C) "__eq__" = some (some (.ref f))) (hf : PySem.W.isFn K (.ref f) = true)
    (h : wpAny (model prog w) A.in1 (call (.ref f) [.ref x, b]) (fun v s' => ∃ k, v = .bool k ∧ Q (.bool (!k)) s') E s) : wpAny (model prog w) A (richCompare .NotEq (.ref x) b) Q E s := by
  have X := X₀.keeps F.keep
  have one : wpAny (model prog w) A (tryCompare (.ref x) (cmpInfo .NotEq).2.1 b) (fun r s' => ∃ v, r = some v ∧ Q v s') E s := by
    unfold tryCompare
    refine wpAny_bind (ifBound_B X I hs PySem.F.cmp_object.ne.bind (wpAny_call (codeAny_call_builtin PySem.F.cmp_object.ne.plain PySem.F.cmpEntry_ne
      (PySem.W.check_slot PySem.F.cmpKind_ne PySem.F.cmpSplit_ne (I.type.andThen (PySem.W.looks_mroIn X hm)) (PySem.F.cmpArgs_ne _ _) (entry_ne (A := A.in1) hu X I he hf (wpAny_mono h (fun v s' hv => ?_) fun _ _ e => e))))))
    obtain ⟨k, rfl, hq⟩ := hv
    first
      | exact ⟨k, rfl, wpAny_pure ⟨_, rfl, hq⟩⟩
      | exact ⟨k, rfl, wpAny_pure (wpAny_pure ⟨_, rfl, hq⟩)⟩
      | exact ⟨k, rfl, ⟨_, rfl, hq⟩⟩
  unfold richCompare
  simp only [oneThing_ref]
  refine wpAny_holding (wpAny_bind (wpAny_cRoomFor (Nat.lt_of_succ_lt hu) ?_))
  refine wpAny_bind (I.type.here (wpAny_bind (hb.here ?_)))
  split
  · rename_i q
    have e : PySem.W.subIn K tb (.ref C) = some false := by
      rcases Bool.or_eq_true_iff.mp hn with e | e
      · rw [beq_iff_eq.mp e] at q; simp at q
      · exact beq_iff_eq.mp e
    refine wpAny_bind ((PySem.W.looks_subIn X e).here ?_)
    simp only [Bool.false_eq_true, if_false]
    refine wpAny_bind (wpAny_mono one (fun r s' z => ?_) fun _ _ e => e)
    obtain ⟨v, rfl, hq⟩ := z
    exact wpAny_pure hq
  · refine wpAny_bind (wpAny_pure ?_)
    simp only [Bool.false_eq_true, if_false]
    refine wpAny_bind (wpAny_mono one (fun r s' z => ?_) fun _ _ e => e)
    obtain ⟨v, rfl, hq⟩ := z
    exact wpAny_pure hq
end
section
variable {X : Cx} {CX : CXT} {C g : Addr} {n : Nat} {sp : Sp} {E : XK}
/-- x != y, by the own == -/
def rOwnNe (K : PySem.W.Frag) (C : Addr) (sp : Sp) (E : XK) : R2 := fun x y H Q => ∃ (a dx : Addr) (fs : List (Str × V)) (t : Value), x = .ref a ∧ H a = some (.ins C dx fs) ∧ TyX K H y t ∧ PySem.W.notFirst K C t = true ∧ sp [x, y] H (fun v H' => ∃ k, v = .bl k ∧ Q (.bl (!k)) H') E
theorem op_ownNe (hm : PySem.W.mroIn X.K C (.type "object") = some true) (hne : PySem.W.findIn X.K (.ref C) "__ne__" = some (some (.builtin "object.__ne__"))) (hs : PySem.W.findIn X.K (.ref C) "__eq__" = some (some (.ref g))) (hf : PySem.W.isFn X.K (.ref g) = true)
    (F : FnR X.prog X.w X.K X.mg X.base CX n g sp) (hr : Room (n + 1) X.A) (hx : Passes CX X E) : OpR X (compareOp .NotEq) (rOwnNe X.K C sp E) := by
  intro pins s σ H x y v u Q I rx ry h
  obtain ⟨a, dx, fs, t, rfl, ha, ty, hn, q⟩ := h
  cases (show v = Value.ref a from rx)
  obtain ⟨mA, J, _⟩ := ins_get I.hok ha
  obtain ⟨od, J, _⟩ := J.look
  obtain ⟨Pk, Z, hP, _⟩ := kit_of I ry ty
  obtain ⟨m, hF⟩ := I.fr
  show wpAny (model X.prog X.w) X.A (richCompare .NotEq (.ref a) u) _ _ s
  refine ne_K (tb := t) (by have := hr.un; omega) hF I.ok.mod.kin J (Z.ty _ _ I.kIn hP) hn hm hne hs hf ?_
  refine wpAny_mono (wpAny_call (run_at (us := [.ref a, u]) (ws := [.ref a, y]) F hr.in1 I.env0.in1 hx I (.cons rfl (.cons ry .nil)) q)) (fun w s' z => ?_) fun _ _ x => x
  obtain ⟨z', H', I', rz, k, rfl, qz⟩ := z
  cases (show w = Value.bool k from rz)
  exact ⟨k, rfl, .bl (!k), H', I', rfl, qz⟩
end
end Qp
set_option Elab.async false
set_option linter.all false
set_option maxRecDepth 100000
set_option maxHeartbeats 4000000
/-! A walk over a list or a tuple; max(a list of ints, default = d); enumerate(a tuple); o.m(k = v). -/
namespace Ql
open PySem PySem.Spec PyProof.Rows L2 Qh PySem.W
section
variable {X : Cx} {tg : Expr}
def iSeq (K : PySem.W.Frag) (tl : TE) : TI := fun σ H R => tl σ H fun x H1 => ∃ a, x = .ref a ∧ (((∃ xs, SqL K H1 a xs) ∧ R (Itl K a) H1) ∨ ((∃ xs, SqT K H1 a xs) ∧ R (Itt K a) H1))
theorem pi_seq {l : Expr} {tl : TE} (hl : PE X l tl) : PI X tg l (iSeq X.K tl) := by
  refine ⟨fun pins s σ H R I h => ?_⟩
  refine thn (hl.run pins s σ H _ I h) fun v s1 ⟨x, H1, I1, r1, q1⟩ => ?_
  obtain ⟨a, e, q1⟩ := q1
  subst e
  cases r1
  have old : ∀ b ∈ [s1.heap.objs.size], FpOk X pins H1 b := fun b hb => by
    have e : b = s1.heap.objs.size := by simpa using hb
    subst e
    exact I1.fpOk (Nat.le_refl _) (I1.hok.fresh (Nat.le_refl _))
  rcases q1 with ⟨⟨xs, hq⟩, q⟩ | ⟨⟨xs, hq⟩, q⟩
  · obtain ⟨its, rv, p, hz⟩ := I1.list hq
    refine wpAny_pyIter_list p.isList ?_
    exact ⟨s1.heap.objs.size, [s1.heap.objs.size], _, _, H1, rfl, I1.kept (t' := s1.toks) fun b o e => Heap.get?_push_of_some _ e, turn_list a _, ⟨_, Heap.get?_push_size _ rfl, rfl, rfl⟩, old, q⟩
  · obtain ⟨its, rv, p, hz⟩ := I1.tuple hq
    refine wpAny_pyIter_tuple (show s1.heap.IsTuple a its.toArray from p) ?_
    exact ⟨s1.heap.objs.size, [s1.heap.objs.size], _, _, H1, rfl, I1.kept (t' := s1.toks) fun b o e => Heap.get?_push_of_some _ e, turn_tuple a _, ⟨_, Heap.get?_push_size _ rfl, rfl, rfl⟩, old, q⟩
/-! ### max(xs, default = d) -/
/-! ### enumerate(tuple) -/
open AutoSeq1 (wpAny_loadPart') in
theorem meets_enumT (l : Addr) (items : Array Value) (n : Nat) (dct : Option Addr) (sl : Array (Option Value)) :
    Meets (Builtin.«enumerate.__new__» ⟨[.type "enumerate", .ref l], []⟩) (fun _ R s => s.heap.get? l = some { cls := .type "tuple", dict := dct, data := .seq items n, slots := sl } ∧
      R (.ok (.ret (.ref (s.heap.push { cls := .type "tuple_iterator", data := .fields #[.ref l, .int 0 0] }).objs.size)))
        { s with heap := (s.heap.push { cls := .type "tuple_iterator", data := .fields #[.ref l, .int 0 0] }).push { cls := .type "enumerate", data := .fields #[.none, .bool false, .ref s.heap.objs.size, rawInt 0, .none, .none] } }) :=
  .of_wp fun prog w A R s h => by
    obtain ⟨hp, g, d, tk, os⟩ := s
    obtain ⟨hl, h⟩ := h
    have hsub := sub_enumerate
    have hL : Heap.IsTuple (Shared.heap ⟨hp, g, d, tk, os⟩) l items := ⟨_, hl, rfl, n, rfl⟩
    wp_walk using wpAny_loadPart' hl
    refine wpAny_stack_any fun st => wpAny_pure ?_
    split
    · rename_i c _ _ _ _ _
      cases (c == Value.type "enumerate")
      · wp_walk using wpAny_loadPart' hl, wpAny_pyIter_tuple hL
        exact ⟨_, rfl, h⟩
      · wp_walk using wpAny_loadPart' hl, wpAny_pyIter_tuple hL
        exact ⟨_, rfl, h⟩
    · wp_walk using wpAny_loadPart' hl, wpAny_pyIter_tuple hL
      exact ⟨_, rfl, h⟩
theorem call_enumT {prog : Program} {w : World} {A : Around} {E : Value → Shared → Prop} {s : Shared} {l : Addr} {items : Array Value} {Q : Value → Shared → Prop} (hL : s.heap.IsTuple l items)
    (h : ∀ h', IsEnum h' (s.heap.objs.size + 1) s.heap.objs.size 0 .none → h'.IsTupleIter s.heap.objs.size l 0 → h'.objs.size = s.heap.objs.size + 2 →
      (∀ b o, s.heap.get? b = some o → h'.get? b = some o) → Q (.ref (s.heap.objs.size + 1)) { s with heap := h' }) :
    wpAny (model prog w) A (call (.type "enumerate") [.ref l]) Q E s := by
  obtain ⟨⟨c, dct, dt, sl⟩, hl, hc, n, hd⟩ := hL
  replace hc : c = .type "tuple" := hc
  replace hd : dt = .seq items n := hd
  subst hc hd
  refine callType_new F.called_enumerate (by decide) (F.typeCall_enumerate_1 _) (F.newCall_enumerate_1 _) (fun obj => F.args_object_init_2 obj _) F.entry_enumerate_new
    (meets_enumT l items n dct sl) ⟨hl, ?_⟩
  have hz : (s.heap.push { cls := .type "tuple_iterator", data := .fields #[.ref l, .int 0 0] }).objs.size = s.heap.objs.size + 1 := Heap.size_push ..
  show _ ∧ _
  rw [hz]
  have he : IsEnum ((s.heap.push { cls := .type "tuple_iterator", data := .fields #[.ref l, .int 0 0] }).push
      { cls := .type "enumerate", data := .fields #[.none, .bool false, .ref s.heap.objs.size, rawInt 0, .none, .none] }) (s.heap.objs.size + 1) s.heap.objs.size 0 .none := by
    have := Heap.get?_push_size (s.heap.push { cls := .type "tuple_iterator", data := .fields #[.ref l, .int 0 0] })
      (o := { cls := .type "enumerate", data := .fields #[.none, .bool false, .ref s.heap.objs.size, rawInt 0, .none, .none] }) rfl
    rw [hz] at this; exact this
  refine ⟨⟨_, he, rfl⟩, h _ he ⟨_, Heap.get?_push_of_some _ (Heap.get?_push_size _ rfl), rfl, rfl⟩ (by rw [Heap.size_push, hz]) fun b o x => Heap.get?_push_of_some _ (Heap.get?_push_of_some _ x)⟩
def IteT (K : PySem.W.Frag) (a : Addr) : It :=
  ⟨fun i H => ∃ (xs : List V) (x : V), SqT K H a xs ∧ xs[i]? = some x, fun i H v H' => ∃ T x, v = .ref T ∧ H T = none ∧ H' = upd H T (.tup [.int (i : Nat), x]) ∧ ∀ xs, SqT K H a xs → xs[i]? = some x, fun i H => ∃ xs : List V, SqT K H a xs ∧ xs.length ≤ i⟩
theorem turn_enumT {P : Program} {w : World} {K : PySem.W.Frag} {elts : List Expr} {kk : Nat} {tpos : Pos} (a e it : Addr) :
    Turn P w K (.Tuple elts kk tpos) (IteT K a) [e, it] e (fun i h => (∃ old, IsEnum h e it ((i : Nat) : Int) old) ∧ h.IsTupleIter it a i ∧ e ≠ it ∧ a ≠ it ∧ a ≠ e) where
  mem := by simp
  obj := fun i h st b hb => by
    obtain ⟨⟨old, he⟩, ⟨o, ho, hc, hd⟩, _⟩ := st
    have e' : b = e ∨ b = it := by simpa using hb
    rcases e' with z | z
    · rw [z]; exact ⟨_, he, fun v q => nomatch q⟩
    · rw [z]; exact ⟨o, ho, fun v q => by rw [hd] at q; cases q⟩
  keep := fun i h h' st k => let ⟨⟨old, he⟩, hi, hne⟩ := st; ⟨⟨old, k e (by simp) _ he⟩, hi.at fun o q => k it (by simp) o q, hne⟩
  item := by
    intro X hP hw hK hc i pins s σ H E I hf st hg
    subst hP hw hK
    obtain ⟨⟨old, he⟩, hit, hne, hai, hae⟩ := st
    obtain ⟨xs, x, hq, hx⟩ := hg
    obtain ⟨its, rv, p, hz⟩ := I.tuple hq
    have p : s.heap.IsTuple a its.toArray := p
    obtain ⟨u, hu, ru⟩ := rv.get hx
    have hel : e < s.heap.objs.size := Heap.lt_size he
    have hil : it < s.heap.objs.size := by obtain ⟨_, q, _⟩ := hit; exact Heap.lt_size q
    have hlt : i < its.toArray.size := by
      have := (List.getElem?_eq_some_iff.mp hu).1
      simpa using this
    refine wpAny_pyNext_enum_itemD (Draws.tuple (A := X.A.in1) (I.ok.hd hc) it a hai its.toArray) he ⟨hit, p⟩ hlt hne (by simp only [List.mem_cons, List.not_mem_nil, or_false, not_or]; exact ⟨hne, Ne.symm hae⟩) fun v h' tk hv ho st' hT hsz hk => ?_
    have ev : v = u := by
      have hu' : its.toArray[i]? = some u := by simpa using hu
      have h2 : its.toArray[i]? = some v := hv
      rw [hu'] at h2
      exact (Option.some.inj h2).symm
    subst ev
    have hit' := st'.1
    refine ⟨_, rfl, wpAny_letOwnedTupleGo_enum (s := { s with heap := h', toks := tk + 1 }) ho fun h'' he' sb => ?_⟩
    have hT2 : h''.get? s.heap.objs.size = some { cls := .type "tuple", data := .seq #[.int i tk, v] } := (sb.2 _ (Nat.ne_of_gt hel)).trans hT
    have new : ObjOk X.prog X.w (upd H s.heap.objs.size (.tup [.int (i : Nat), x])) h'' s.heap.objs.size (.tup [.int (i : Nat), x]) :=
      ⟨by show 2 ≤ sizeLine; decide, [.int i tk, v], .cons ⟨_, rfl⟩ (.cons ru .nil), ⟨_, hT2, rfl, _, rfl⟩⟩
    have I1 : Inv X pins σ (upd H s.heap.objs.size (.tup [.int (i : Nat), x])) { s with heap := h'', toks := tk + 1 } :=
      I.turnedNew (ch := [e, it]) (fun b ob hb q => (sb.2 b (fun z => hb (by simp [z]))).trans (hk b ob (fun z => hb (by simp [z])) (fun z => hb (by simp [z])) q)) hf (Nat.le_refl _) new
    refine ⟨.ref s.heap.objs.size, _, I1, rfl, ⟨_, x, rfl, I.hok.fresh (Nat.le_refl _), rfl, fun ys hy => by rw [I.tuple_inj hy hq]; exact hx⟩, ⟨⟨v, ?_⟩, hit'.at fun o q => (sb.2 it (Ne.symm hne)).trans q, hne, hai, hae⟩, fun b hb => ?_⟩
    · have e1 : ((i + 1 : Nat) : Int) = (i : Int) + 1 := by omega
      rw [e1]; exact he'
    · have hb' : b < s.heap.objs.size := by
        have e' : b = e ∨ b = it := by simpa using hb
        rcases e' with z | z
        · rw [z]; exact hel
        · rw [z]; exact hil
      rw [upd_ne (Nat.ne_of_lt hb')]
      exact (hf b hb).1
  done := by
    intro X hP hw hK hc i pins s σ H E I hf st hg
    subst hP hw hK
    obtain ⟨⟨old, he⟩, hit, hne, hai, hae⟩ := st
    obtain ⟨xs, hq, hx⟩ := hg
    obtain ⟨its, rv, p, hz⟩ := I.tuple hq
    have p : s.heap.IsTuple a its.toArray := p
    obtain ⟨f0, f1, f2, f3, f4, f5⟩ := hf it (by simp)
    have hl := rv.length
    have hT : s.TypeIs (.ref e) "enumerate" := ⟨_, he, rfl⟩
    unfold pyNext
    refine wpAny_bind (wpAny_attempt (wpAny_callSpecial?_slot (name := Str.ofString "__next__") hT F.slot_enumerate_next
      (wpAny_call_entry F.slot_enumerate_next hT F.entry_enumerate_next ?_ (F.args_enumerate_next_1 _))))
    show wpAny _ _ (field (.ref e) 2 >>= _) _ _ _
    refine wpAny_bind (wpAny_field he rfl (x := .ref it) rfl ?_)
    refine wpAny_bind (wpAny_nextOf_tuple_end (I.ok.hd hc) hit p (by simp; omega) fun h' x he' hx' => ?_)
    obtain ⟨o, ho, hcl⟩ := hx'
    refine wpAny_bind (wpAny_isInstance (T := "StopIteration") (b := true) ⟨o, ho, hcl⟩ isSubtype_stop ?_)
    exact wpAny_pure ⟨rfl, I.turned (t' := s.toks) (fun b o hb q => he' b o hb q) f0 f1 f3 f4 f5⟩
  self := fun A i s Q E st h => let ⟨⟨_, he⟩, _⟩ := st; wpAny_pyIter_enum he h
def iEnumT (K : PySem.W.Frag) (ta : TA) : TI := fun σ H R => ta σ H fun vs H1 => ∃ a xs, vs = [.ref a] ∧ SqT K H1 a xs ∧ R (IteT K a) H1
theorem pi_enumT {e : Expr} {ta : TA} {p pos tpos : Pos} {elts : List Expr} {kk : Nat} (hg : Gl X "enumerate") (hm : X.mg "enumerate" = none) (ha : PA X [e] ta) (hs : starEach [e] X.env = [(false, eval e X.env)] := by rfl) :
    PI X (.Tuple elts kk tpos) (.Call (.Name "enumerate" p) [e] [] pos) (iEnumT X.K ta) := by
  refine ⟨fun pins s σ H R I h => ?_⟩
  refine Call_ (ld_blt I hg hm boot_enumerate (PyProof.Rows.callWith_type1 (thn (ha.run pos pins s σ H _ I h) fun us s1 ⟨vs, H1, I1, r1, q1⟩ => ?_) hs rfl))
  obtain ⟨a, xs, ex, hq, q⟩ := q1
  subst ex
  cases r1 with
  | cons r rr =>
    cases rr
    cases r
    obtain ⟨its, rv, p', hz⟩ := I1.tuple hq
    have p' : s1.heap.IsTuple a its.toArray := p'
    have la : a < s1.heap.objs.size := by obtain ⟨_, h1, _⟩ := p'; exact Heap.lt_size h1
    refine call_enumT p' fun h' he hit hsz hk => wpAny_pyIter_enum he ?_
    have I2 : Inv X pins σ H1 { s1 with heap := h' } := I1.kept (t' := s1.toks) hk
    refine ⟨s1.heap.objs.size + 1, [s1.heap.objs.size + 1, s1.heap.objs.size], _, _, H1, rfl, I2, turn_enumT a (s1.heap.objs.size + 1) s1.heap.objs.size, ⟨⟨.none, he⟩, hit, Nat.succ_ne_self _, Nat.ne_of_lt la, Nat.ne_of_lt (Nat.lt_succ_of_lt la)⟩, fun b hb => ?_, q⟩
    have e' : b = s1.heap.objs.size + 1 ∨ b = s1.heap.objs.size := by simpa using hb
    have hle : s1.heap.objs.size ≤ b := by
      rcases e' with z | z
      · rw [z]; exact Nat.le_add_right _ _
      · rw [z]; exact Nat.le_refl _
    exact I1.fpOk hle (I1.hok.fresh hle)
theorem walk_enumT {K : PySem.W.Frag} {a : Addr} {xs : List V} : Walk (IteT K a) xs.length (fun H => SqT K H a xs) (YPair (fun i => some (.int (i : Nat))) (fun i => xs[i]?)) := by
  refine ⟨fun i _ hi q => ⟨xs, xs[i], q, by simp [hi]⟩, fun _ q => ⟨xs, q, Nat.le_refl _⟩, fun i H v H' _ q y => ?_⟩
  obtain ⟨T, x, h1, h2, h3, h4⟩ := y
  exact ⟨T, .int (i : Nat), x, h1, h2, h3, rfl, h4 xs q⟩
end
end Ql
set_option Elab.async false
set_option linter.all false
set_option maxRecDepth 100000
set_option maxHeartbeats 4000000
/-! Sets of texts: what stands in them, a text added, made of a row, sorted. -/
namespace Qs
open PySem PySem.Spec PyProof.Rows L2
def keyX (e : Int × Value) : Str := match e.2 with
  | .str x _ => x
  | _ => Str.empty
def GoodX (w : World) (e : Int × Value) : Prop := ∃ x tk, e.2 = Value.str x tk ∧ e.1 = hashStr w x
/-- the set at a has just the texts ks -/
def SetX (w : World) (h : Heap) (a : Addr) (ks : List Str) : Prop := ∃ o es ep t, h.get? a = some o ∧ o.ExactSet ∧ o.data = .set es ep t ∧ (∀ e ∈ es.toList, GoodX w e) ∧ (es.toList.map keyX).Perm ks ∧ ks.Nodup ∧
  es.size < scanBound ∧ t.fits es.size = true ∧ Ris t.place.toList ∧ (w.params.followText "set-order" = true ∨ t.led = true)
section
variable {P : Program} {w : World} {h h' : Heap} {a : Addr} {ks : List Str}
theorem SetX.at (R : SetX w h a ks) (k : ∀ o, h.get? a = some o → h'.get? a = some o) : SetX w h' a ks := by
  obtain ⟨o, es, ep, t, hob, more⟩ := R
  exact ⟨o, es, ep, t, k o hob, more⟩
theorem SetX.lt (R : SetX w h a ks) : a < h.objs.size := by
  obtain ⟨o, es, ep, t, hob, _⟩ := R
  exact Heap.lt_size hob
theorem str_is (x : Str) (tk : Tok) : (strKind P w).is x (.str x tk) = true := strKind_is P w x tk
theorem goods_elems {l : List (Int × Value)} (gd : ∀ e ∈ l, GoodX w e) : ElemsOf (strKind P w) l := fun e he => by
  obtain ⟨x, tk, e1, e2⟩ := gd e he
  exact ⟨⟨x, by rw [e1]; exact str_is x tk, e2⟩, by rw [e1] <;> rfl⟩
theorem good_key {e : Int × Value} (gd : GoodX w e) (x : Str) : (strKind P w).is x e.2 = true ↔ keyX e = x := by
  obtain ⟨y, tk, e1, _⟩ := gd
  have ek : keyX e = y := by
    unfold keyX
    rw [e1]
  rw [e1, ek]
  constructor
  · intro z
    exact (strKind P w).inj _ _ _ (str_is y tk) z
  · intro z
    rw [← z]
    exact str_is y tk
theorem put_get {o : Obj} {es es' : Array (Int × Value)} {ep : Nat} {t t' : SetTable} (hob : h.get? a = some o) (hdt : o.data = .set es ep t) :
    (h.update a (Obj.putSet es' t')).get? a = some { o with data := .set es' (ep + 1) t' } := L2.store_at hob hdt
end
section
variable {P : Program} {w : World} {A : Around} {E : Value → Shared → Prop} {s : Shared} {a : Addr} {ks : List Str}
theorem tail_add {g : Bool → Sem Unit} (quiet : ∀ (b : Bool) (s₁ : Shared) (Q' : Unit → Shared → Prop), Q' () s₁ → wpAny (model P w) A (g b) Q' E s₁)
    {o : Obj} {es : Array (Int × Value)} {ep : Nat} {t : SetTable} (hob : s.heap.get? a = some o) (exact_ : o.ExactSet) (hdt : o.data = .set es ep t)
    {es1 : Array (Int × Value)} {t2 : SetTable} {ks1 : List Str} (gd : ∀ e ∈ es1.toList, GoodX w e) (pm1 : (es1.toList.map keyX).Perm ks1) (nd1 : ks1.Nodup)
    (few : es1.size < scanBound) (fit : t2.fits es1.size = true) (rise : Ris t2.place.toList) (led : w.params.followText "set-order" = true ∨ t2.led = true) {wasDummy : Bool} {R : Option Bool → Shared → Prop}
    (hR : ∀ h', Heap.SameBut a s.heap h' → SetX w h' a ks1 → R (some true) { s with heap := h' }) :
    wpAny (model P w) A (do
        storeSet a es1 t2
        if (!wasDummy && t2.tooFull) = true then do
            g (relayAll t2 es1 (SetTable.grown es1.size)).2.2
            storeSet a (relayAll t2 es1 (SetTable.grown es1.size)).1 (relayAll t2 es1 (SetTable.grown es1.size)).2.1
            pure (some true)
          else pure (some true)) R E s := by
  refine wpAny_bind (wpAny_storeSet_of hob hdt ?_ (fits_of_scanBound few))
  have laid := put_get (es' := es1) (t' := t2) hob hdt
  have same1 := Heap.SameBut.update s.heap a (Obj.putSet es1 t2)
  split
  · have pmR := relayAll_perm t2 es1 (SetTable.grown es1.size)
    have fitR := relayAll_fits t2 es1 (SetTable.grown es1.size)
    have riseR := relayAll_ris t2 es1 (SetTable.grown es1.size)
    have ledR := relayAll_led t2 es1 (SetTable.grown es1.size)
    generalize relayAll t2 es1 (SetTable.grown es1.size) = Y at pmR fitR riseR ledR ⊢
    obtain ⟨es2, t3, gave⟩ := Y
    dsimp only at pmR fitR riseR ledR ⊢
    have size2 : es2.size = es1.size := by rw [← Array.length_toList, pmR.length_eq, Array.length_toList]
    have few2 : es2.size < scanBound := by rw [size2]; exact few
    refine wpAny_bind (quiet _ _ _ ?_)
    refine wpAny_bind (wpAny_storeSet_of laid rfl ?_ (fits_of_scanBound few2))
    have laid2 := put_get (es' := es2) (t' := t3) laid rfl
    refine wpAny_pure (hR _ (same1.trans (Heap.SameBut.update _ a _)) ⟨_, es2, _, t3, laid2, exact_, rfl, fun e he => gd e (pmR.mem_iff.mp he), (pmR.map keyX).trans pm1, nd1, few2, fitR, riseR, ?_⟩)
    rcases led with z | z
    · exact .inl z
    · exact .inr (by rw [ledR]; exact z)
  · exact wpAny_pure (hR _ same1 ⟨_, es1, _, t2, laid, exact_, rfl, gd, pm1, nd1, few, fit, rise, led⟩)
/-- what the set has behind x -/
def more (ks : List Str) (x : Str) : List Str := if x ∈ ks then ks else x :: ks
theorem hashed_add {x : Str} {tk : Tok} {Q : Bool → Shared → Prop} (R : SetX w s.heap a ks) (room : ks.length + 1 < scanBound)
    (hQ : ∀ h' b, Heap.SameBut a s.heap h' → SetX w h' a (more ks x) → Q b { s with heap := h' }) :
    wpAny (model P w) A (setAddHashed a (.str x tk) ((strKind P w).hash x)) Q E s := by
  obtain ⟨o, es, ep, t, hob, exact_, hdt, gd, pm, nd, few, fit, rise, led⟩ := R
  have isx : (strKind P w).is x (.str x tk) = true := str_is x tk
  have scan : (Value.str x tk).scannable = true := rfl
  have elems : ElemsOf (strKind P w) es.toList := goods_elems gd
  have many : es.size = ks.length := by rw [← pm.length_eq, List.length_map, Array.length_toList]
  unfold setAddHashed setAddHashedIn
  refine wpAny_holding (wpAny_bind (wpAny_setState_of hob hdt fit ?_))
  dsimp only
  rw [byScan_of scan few elems]
  simp only [↓reduceIte]
  unfold setAddByScan
  refine wpAny_bind ?_
  refine wpAny_bind (wpAny_rule ?_)
  refine wpAny_bind (wpAny_setScan_of isx hob hdt fit elems ?_)
  cases found : List.findIdx? (fun e => (strKind P w).is x e.2) es.toList with
  | some j =>
    dsimp only
    obtain ⟨hj, pj, _⟩ := List.findIdx?_eq_some_iff_getElem.mp found
    have inx : x ∈ ks := pm.mem_iff.mp (List.mem_map.mpr ⟨es.toList[j], List.getElem_mem hj, (good_key (P := P) (gd _ (List.getElem_mem hj)) x).1 pj⟩)
    refine wpAny_pure (wpAny_pure ?_)
    refine hQ s.heap _ (Heap.SameBut.refl a s.heap) ⟨o, es, ep, t, hob, exact_, hdt, gd, ?_, ?_, few, fit, rise, led⟩
    · unfold more
      rw [if_pos inx]
      exact pm
    · unfold more
      rw [if_pos inx]
      exact nd
  | none =>
    dsimp only
    have notin : x ∉ ks := fun z => by
      obtain ⟨e, he, q⟩ := List.mem_map.mp (pm.mem_iff.mpr z)
      have c := List.findIdx?_eq_none_iff.mp found e he
      rw [(good_key (P := P) (gd e he) x).2 q] at c
      cases c
    have quiet : ∀ (b : Bool) (s₁ : Shared) (Q' : Unit → Shared → Prop), Q' () s₁ → wpAny (model P w) A (match b with | true => rule "set.scan.the-table-gave-way" | false => pure ()) Q' E s₁ := fun b s₁ Q' z => by
      cases b
      · exact wpAny_pure z
      · exact wpAny_rule z
    have pmL := layNew_perm t es ((strKind P w).hash x) (.str x tk)
    have fitL := layNew_fits t es ((strKind P w).hash x) (.str x tk)
    have riseL := layNew_ris t es ((strKind P w).hash x) (.str x tk) rise
    have ledL := layNew_led t es ((strKind P w).hash x) (.str x tk)
    generalize layNew t es ((strKind P w).hash x) (.str x tk) = Y at pmL fitL riseL ledL ⊢
    obtain ⟨es1, t1, wasDummy, gave⟩ := Y
    dsimp only at pmL fitL riseL ledL ⊢
    rw [Array.toList_push] at pmL
    have pmC : es1.toList.Perm (((strKind P w).hash x, Value.str x tk) :: es.toList) := pmL.trans (List.perm_append_singleton _ _)
    have pmK : (es1.toList.map keyX).Perm (x :: ks) := (pmC.map keyX).trans (pm.cons x)
    have gd1 : ∀ e ∈ es1.toList, GoodX w e := fun e he => by
      rcases List.mem_cons.mp (pmC.mem_iff.mp he) with z | z
      · rw [z]
        exact ⟨x, tk, rfl, rfl⟩
      · exact gd e z
    have nd1 : (x :: ks).Nodup := List.nodup_cons.mpr ⟨notin, nd⟩
    have few1 : es1.size < scanBound := by
      rw [← Array.length_toList, pmC.length_eq, List.length_cons, Array.length_toList, many]
      exact room
    have led1 : w.params.followText "set-order" = true ∨ t1.led = true := by
      rcases led with z | z
      · exact .inl z
      · exact .inr (by rw [ledL]; exact z)
    have fin : ∀ h', Heap.SameBut a s.heap h' → SetX w h' a (x :: ks) → Q true { s with heap := h' } := fun h' sb r => hQ h' _ sb (by
      unfold more
      rw [if_neg notin]
      exact r)
    refine wpAny_bind (quiet _ _ _ ?_)
    split
    · refine wpAny_bind ?_
      rw [hashByValue_scannable 8 scan]
      refine wpAny_pure ?_
      refine tail_add ?_ hob exact_ hdt gd1 pmK nd1 few1 ?_ ?_ ?_ ?_
      · intro b s₁ Q' z; cases b <;> first | exact wpAny_pure z | exact wpAny_rule z
      · first | (split <;> first | exact fitL | exact SetTable.fits_plain_off fitL) | exact fitL
      · first | (split <;> exact riseL) | exact riseL
      · first | (split <;> exact led1) | exact led1
      · intro h' sb r; dsimp only; exact wpAny_pure (fin h' sb r)
    · refine wpAny_bind (wpAny_pure ?_)
      simp only [↓reduceIte]
      refine tail_add ?_ hob exact_ hdt gd1 pmK nd1 few1 fitL riseL led1 ?_
      · intro b s₁ Q' z; cases b <;> first | exact wpAny_pure z | exact wpAny_rule z
      · intro h' sb r; dsimp only; exact wpAny_pure (fin h' sb r)
end
end Qs
set_option Elab.async false
set_option linter.all false
set_option maxRecDepth 100000
set_option maxHeartbeats 4000000
/-! set(a list or tuple of texts). -/
namespace Qs
open PySem PySem.Spec PyProof.Rows L2
def metOf (l : List Str) (i : Nat) : List Str := (l.take i).foldl more []
theorem metOf_succ {l : List Str} {i : Nat} {x : Str} (h : l[i]? = some x) : metOf l (i + 1) = more (metOf l i) x := by
  unfold metOf
  rw [List.take_succ, h]
  show ((l.take i) ++ [x]).foldl more [] = _
  rw [List.foldl_append]
  rfl
theorem more_len (ks : List Str) (x : Str) : (more ks x).length ≤ ks.length + 1 := by
  unfold more
  split
  · omega
  · simp
theorem fold_len : ∀ (l ks : List Str), (l.foldl more ks).length ≤ ks.length + l.length
  | [], ks => by simp
  | x :: l, ks => by
    have h1 := fold_len l (more ks x)
    have h2 := more_len ks x
    simp only [List.foldl_cons, List.length_cons]
    omega
theorem met_len (l : List Str) (i : Nat) : (metOf l i).length ≤ i := by
  have h := fold_len (l.take i) []
  simp only [List.length_nil, List.length_take] at h
  unfold metOf
  omega
theorem more_mem (ks : List Str) (x y : Str) : y ∈ more ks x ↔ y ∈ ks ∨ y = x := by
  unfold more
  by_cases h : x ∈ ks
  · rw [if_pos h]
    constructor
    · exact fun z => .inl z
    · rintro (z | z)
      · exact z
      · rw [z]
        exact h
  · rw [if_neg h, List.mem_cons]
    exact Or.comm
theorem fold_mem : ∀ (l ks : List Str) (y : Str), y ∈ l.foldl more ks ↔ y ∈ ks ∨ y ∈ l
  | [], ks, y => by simp
  | x :: l, ks, y => by
    rw [List.foldl_cons, fold_mem l (more ks x) y, more_mem, List.mem_cons, or_assoc]
theorem met_mem (l : List Str) (y : Str) : y ∈ metOf l l.length ↔ y ∈ l := by
  unfold metOf
  rw [List.take_length, fold_mem]
  simp
theorem fresh_x {h : Heap} {a : Addr} (w : World) (hob : h.get? a = some { cls := .type "set", dict := none, data := .set #[] 0 (.fresh 0 0 (!w.params.followText "set-order")) }) : SetX w h a [] :=
  ⟨_, #[], 0, _, hob, ⟨rfl, rfl, rfl⟩, rfl, (fun e he => by simp at he), (by simp), List.nodup_nil, (by decide), (by rfl), List.Pairwise.nil, by
    show _ ∨ (!w.params.followText "set-order") = true
    cases w.params.followText "set-order"
    · exact .inr rfl
    · exact .inl rfl⟩
section
variable {prog : Program} {w : World} {A : Around} {R : Result → Shared → Prop} {I : Addr} {fp wr : List Addr} {G : Array GenState → Array GenState → Prop} {n : Nat} {P : Nat → Value → Prop} {St : Nat → Shared → Prop}
/-- the loop of set.update, over texts -/
theorem loop_add (W : WalksS prog w A.in1 I fp wr G n P St) (S : Addr) (apart : S ∉ fp) (l : List Str) (items : ∀ i v, P i v → ∃ x t, v = .str x t ∧ l[i]? = some x) (few : n + 1 < scanBound) :
    ∀ (k i : Nat) (s : Shared), n - i = k → i ≤ n → St i s → SetX w s.heap S (metOf l i) →
      (∀ s', Moved (S :: wr) G s s' → SetX w s'.heap S (metOf l n) → R (.ok (.ret .none)) s') →
      codeAny (model prog w) A (.builtin "set.update.loop" ⟨[.ref S, .ref I], []⟩) R s := by
  have notw : S ∉ wr := fun z => apart (W.sub _ z)
  have wider : ∀ b ∈ wr, b ∈ S :: wr := fun b hb => List.mem_cons_of_mem _ hb
  intro k
  induction k with
  | zero =>
    intro i s hk hi st have_ hR
    obtain rfl : i = n := by omega
    refine codeAny_builtin F.entry_set_update_loop ?_
    rw [Around.under_plainId F.plain_set_update_loop _]
    show wpAny _ A.in1 (pyNext (.ref I) >>= _) _ _ s
    refine wpAny_bind (W.done s _ _ st fun s' mv => ?_)
    show wpAny _ A.in1 (ret Value.none) _ _ s'
    exact wpAny_pure (hR s' (mv.mono wider) (have_.at fun o z => mv.heap S _ notw z))
  | succ k ih =>
    intro i s hk hi st have_ hR
    have lt : i < n := by omega
    refine codeAny_builtin F.entry_set_update_loop ?_
    rw [Around.under_plainId F.plain_set_update_loop _]
    show wpAny _ A.in1 (pyNext (.ref I) >>= _) _ _ s
    refine wpAny_bind (W.item i s _ _ lt st fun v s' pv st' mv => ?_)
    obtain ⟨x, t, rfl, lx⟩ := items i v pv
    have have2 : SetX w s'.heap S (metOf l i) := have_.at fun o z => mv.heap S _ notw z
    show wpAny _ A.in1 (holding [Value.str x t] (setAdd S (.str x t)) >>= _) _ _ s'
    refine wpAny_bind (wpAny_holding ?_)
    unfold setAdd
    refine wpAny_holding ?_
    refine wpAny_bind ((strKind prog w).pyHash (k := x) (str_is x t) ?_)
    refine hashed_add (P := prog) (s := { s' with toks := s'.toks + 1 }) have2 (by have := met_len l i; omega) fun h' b sb got => ?_
    rw [← metOf_succ lx] at got
    refine wpAny_pure ⟨plainId_quiet F.plain_set_update_loop _, ih (i + 1) _ (by omega) lt (W.frame _ s' _ _ st' (Nat.le_succ _) fun c hc o e => ?_) got fun s'' mv2 fin => ?_⟩
    · rw [sb.2 c fun z : c = S => apart (z ▸ hc)]
      exact e
    · refine hR s'' (Moved.trans W.gtrans ((mv.mono wider).then_heap (Nat.le_succ _) fun c o hc e => ?_) mv2) fin
      rw [sb.2 c fun z : c = S => hc (z ▸ List.mem_cons_self)]
      exact e
end
end Qs
set_option Elab.async false
set_option linter.all false
set_option maxRecDepth 100000
set_option maxHeartbeats 6400000
/-! The call of set with a list or a tuple of texts. -/
namespace PySem
section
variable {prog : Program} {w : World} {A : Around} {E : Value → Shared → Prop} {s : Shared}
/-- an empty set, as the world orders sets -/
abbrev emptyX (w : World) : Obj := { cls := .type "set", dict := none, data := .set #[] 0 (.fresh 0 0 (!w.params.followText "set-order")) }
theorem newX (a : Value) {Q₁ : Value → Shared → Prop} (h : Q₁ (.ref s.heap.objs.size) { s with heap := s.heap.push (emptyX w) }) :
    codeAny (model prog w) A (.call (.builtin "set.__new__") ⟨[.type "set", a], []⟩) (wants Q₁ E) s := by
  refine codeAny_of_tree ?_
  show wpAny _ A.in1 (do checkBuiltinCall "set.__new__" ⟨[.type "set", a], []⟩; again (.builtin "set.__new__" ⟨[.type "set", a], []⟩)) _ _ s
  refine wpAny_bind (wpAny_of_eq (F.newCall_set_1 a) (wpAny_pure ⟨plainId_quiet F.plain_set_new _, codeAny_builtin F.entry_set_new ?_⟩))
  rw [Around.under_plainId F.plain_set_new _]
  unfold Builtin.«set.__new__» Builtin.Frozenset.newClass
  have isSub := sub_set_self
  obtain ⟨hp, gs, dr, tk, os⟩ := s
  dsimp only
  wp_walk
  refine wpAny_askSetting (wpAny_pure ?_)
  dsimp only
  simp only [newObj]
  exact wpAny_bind (wpAny_alloc (wpAny_pure (wpAny_pure h)))

set_option maxHeartbeats 6400000 in
theorem set_of_list {l : Addr} {items : Array Value} {ts : List Str} {Q : Value → Shared → Prop} (calm : A.handled = none) (hl : s.heap.IsList l items) (all : ∀ (i : Nat) (v : Value), items[i]? = some v → ∃ x t, v = Value.str x t ∧ ts[i]? = some x) (few : items.size + 1 < scanBound)
    (k : ∀ (h' : Heap) (tk : Nat), Qs.SetX w h' s.heap.objs.size (Qs.metOf ts items.size) → (∀ b o, b < s.heap.objs.size → s.heap.get? b = some o → h'.get? b = some o) → Q (.ref s.heap.objs.size) { s with heap := h', toks := tk }) :
    wpAny (model prog w) A (call (.type "set") [.ref l]) Q E s := by
  obtain ⟨c, tl, hmro⟩ := F.called_set.mro
  have hmade := F.called_set.made
  have hsub := F.called_set.sub
  refine wpAny_call (codeAny_of_tree ?_)
  show wpAny _ _ (callAny (.type "set") _) _ _ _
  refine wpAny_pure ⟨Code.quiet_builtin _ (by decide +kernel), codeAny_builtin F.entry_type_call ?_⟩
  rw [Around.under_plain (weight_type_call_type "set" [.ref l] []) rfl]
  have n1 := F.called_set.notType
  have n2 := F.called_set.canCreate
  have n3 := F.typeCall_set_1 (.ref l)
  repeat (any_goals (first | assumption | wp_step))
  refine codeAny_mono (newX (w := w) (.ref l) (E := E) (Q₁ := fun obj s₁ => obj = .ref s.heap.objs.size ∧ s₁ = { s with heap := s.heap.push (emptyX w) }) ⟨rfl, rfl⟩) fun r s₁ hr => ?_
  rcases r with e | fl
  · exact hr
  cases fl with
  | next => exact hr.elim
  | brk => exact hr.elim
  | cont => exact hr.elim
  | ret obj =>
    obtain ⟨rfl, rfl⟩ := hr
    have here : (s.heap.push (emptyX w)).get? s.heap.objs.size = some (emptyX w) := Heap.get?_push_size _ rfl
    have isT : Shared.TypeIs { s with heap := s.heap.push (emptyX w) } (.ref s.heap.objs.size) "set" := ⟨_, here, rfl⟩
    have n4 := F.called_set.init.lookup
    have n5 := F.called_set.init.bind (.ref s.heap.objs.size)
    repeat (any_goals (first | assumption | wp_step))
    refine codeAny_mono (codeAny_call_builtin (R := wants (fun r s₂ => r = .none ∧ ∃ h' tk, s₂ = { s with heap := h', toks := tk } ∧ Qs.SetX w h' s.heap.objs.size (Qs.metOf ts items.size) ∧
      (∀ b o, b < s.heap.objs.size → s.heap.get? b = some o → h'.get? b = some o)) E) F.called_set.init.plain F.entry_set_init (check_set_init_1 isT ?_)) fun r₂ s₂ hr₂ => ?_
    · obtain ⟨ol, hol, hcl, nl, hdl⟩ := hl
      obtain ⟨ocls, odict, odata, oslots⟩ := ol
      simp only at hcl hdl
      subst hcl; subst hdl
      have hol2 : (s.heap.push (emptyX w)).get? l = some { cls := .type "list", dict := odict, data := .seq items nl, slots := oslots } := Heap.get?_push_of_some _ hol
      have m1 := F.sub_list_set
      have m2 := F.sub_list_frozenset
      have m3 : (Value.type "list" == Value.type "dict") = false := by decide
      have hl1 : (s.heap.push (emptyX w)).IsList l items := ⟨_, hol2, rfl, nl, rfl⟩
      unfold Builtin.«set.__init__» noKeywords Builtin.Frozenset.updateFrom
      generalize hPI : pyIter = PI
      wp_walk
      subst hPI
      refine wpAny_pyIter_list hl1 ?_
      refine wpAny_bind (wpAny_runValue ?_)
      have lt : l < s.heap.objs.size := Heap.lt_size hol
      have calm3 : A.in1.in1.in1.handled = none := by simp [calm]
      have two : (s.heap.push (emptyX w)).objs.size = s.heap.objs.size + 1 := Heap.size_push _ _
      have neI : l ≠ (s.heap.push (emptyX w)).objs.size := by
        rw [two]
        exact Nat.ne_of_lt (Nat.lt_succ_of_lt lt)
      have apart : s.heap.objs.size ∉ [(s.heap.push (emptyX w)).objs.size, l] := by
        rw [two]
        simp only [List.mem_cons, List.not_mem_nil, or_false, not_or]
        exact ⟨Nat.ne_of_lt (Nat.lt_succ_self _), Nat.ne_of_gt lt⟩
      refine Qs.loop_add ((Walks.list calm3 _ l neI items).toS) s.heap.objs.size apart ts all few (items.size - 0) 0 _ (by omega) (Nat.zero_le _) ⟨⟨_, Heap.get?_push_size _ rfl, rfl, rfl⟩, (hl1.push _)⟩ ?_ ?_
      · exact Qs.fresh_x w (Heap.get?_push_of_some _ here)
      · rintro ⟨h', g', d', tk', os'⟩ mv fin
        obtain rfl : g' = s.gens := mv.gens
        obtain rfl : d' = s.drawn := mv.drawn
        obtain rfl : os' = s.os := mv.os
        show wpAny _ _ _ _ _ _
        refine wpAny_pure ?_
        show wpAny _ _ (ret Value.none) _ _ _
        refine wpAny_pure ⟨rfl, h', tk', rfl, fin, fun b o hb e => ?_⟩
        refine mv.heap b o ?_ (Heap.get?_push_of_some _ (Heap.get?_push_of_some _ e))
        rw [two]
        simp only [List.mem_cons, List.not_mem_nil, or_false, not_or]
        exact ⟨Nat.ne_of_lt hb, Nat.ne_of_lt (Nat.lt_succ_of_lt hb)⟩
    · rcases r₂ with e | fl₂
      · exact hr₂
      cases fl₂ with
      | next => exact hr₂.elim
      | brk => exact hr₂.elim
      | cont => exact hr₂.elim
      | ret v =>
        obtain ⟨rfl, h', tk, rfl, fin, kept⟩ := hr₂
        repeat (any_goals (first | assumption | wp_step))
        exact k _ _ fin kept

set_option maxHeartbeats 6400000 in
theorem set_of_tuple {l : Addr} {items : Array Value} {ts : List Str} {Q : Value → Shared → Prop} (calm : A.handled = none) (hl : s.heap.IsTuple l items) (all : ∀ (i : Nat) (v : Value), items[i]? = some v → ∃ x t, v = Value.str x t ∧ ts[i]? = some x) (few : items.size + 1 < scanBound)
    (k : ∀ (h' : Heap) (tk : Nat), Qs.SetX w h' s.heap.objs.size (Qs.metOf ts items.size) → (∀ b o, b < s.heap.objs.size → s.heap.get? b = some o → h'.get? b = some o) → Q (.ref s.heap.objs.size) { s with heap := h', toks := tk }) :
    wpAny (model prog w) A (call (.type "set") [.ref l]) Q E s := by
  obtain ⟨c, tl, hmro⟩ := F.called_set.mro
  have hmade := F.called_set.made
  have hsub := F.called_set.sub
  refine wpAny_call (codeAny_of_tree ?_)
  show wpAny _ _ (callAny (.type "set") _) _ _ _
  refine wpAny_pure ⟨Code.quiet_builtin _ (by decide +kernel), codeAny_builtin F.entry_type_call ?_⟩
  rw [Around.under_plain (weight_type_call_type "set" [.ref l] []) rfl]
  have n1 := F.called_set.notType
  have n2 := F.called_set.canCreate
  have n3 := F.typeCall_set_1 (.ref l)
  repeat (any_goals (first | assumption | wp_step))
  refine codeAny_mono (newX (w := w) (.ref l) (E := E) (Q₁ := fun obj s₁ => obj = .ref s.heap.objs.size ∧ s₁ = { s with heap := s.heap.push (emptyX w) }) ⟨rfl, rfl⟩) fun r s₁ hr => ?_
  rcases r with e | fl
  · exact hr
  cases fl with
  | next => exact hr.elim
  | brk => exact hr.elim
  | cont => exact hr.elim
  | ret obj =>
    obtain ⟨rfl, rfl⟩ := hr
    have here : (s.heap.push (emptyX w)).get? s.heap.objs.size = some (emptyX w) := Heap.get?_push_size _ rfl
    have isT : Shared.TypeIs { s with heap := s.heap.push (emptyX w) } (.ref s.heap.objs.size) "set" := ⟨_, here, rfl⟩
    have n4 := F.called_set.init.lookup
    have n5 := F.called_set.init.bind (.ref s.heap.objs.size)
    repeat (any_goals (first | assumption | wp_step))
    refine codeAny_mono (codeAny_call_builtin (R := wants (fun r s₂ => r = .none ∧ ∃ h' tk, s₂ = { s with heap := h', toks := tk } ∧ Qs.SetX w h' s.heap.objs.size (Qs.metOf ts items.size) ∧
      (∀ b o, b < s.heap.objs.size → s.heap.get? b = some o → h'.get? b = some o)) E) F.called_set.init.plain F.entry_set_init (check_set_init_1 isT ?_)) fun r₂ s₂ hr₂ => ?_
    · obtain ⟨ol, hol, hcl, nl, hdl⟩ := hl
      obtain ⟨ocls, odict, odata, oslots⟩ := ol
      simp only at hcl hdl
      subst hcl; subst hdl
      have hol2 : (s.heap.push (emptyX w)).get? l = some { cls := .type "tuple", dict := odict, data := .seq items nl, slots := oslots } := Heap.get?_push_of_some _ hol
      have m1 := F.sub_tuple_set
      have m2 := F.sub_tuple_frozenset
      have m3 : (Value.type "tuple" == Value.type "dict") = false := by decide
      have hl1 : (s.heap.push (emptyX w)).IsTuple l items := ⟨_, hol2, rfl, nl, rfl⟩
      unfold Builtin.«set.__init__» noKeywords Builtin.Frozenset.updateFrom
      generalize hPI : pyIter = PI
      wp_walk
      subst hPI
      refine wpAny_pyIter_tuple hl1 ?_
      refine wpAny_bind (wpAny_runValue ?_)
      have lt : l < s.heap.objs.size := Heap.lt_size hol
      have calm3 : A.in1.in1.in1.handled = none := by simp [calm]
      have two : (s.heap.push (emptyX w)).objs.size = s.heap.objs.size + 1 := Heap.size_push _ _
      have neI : l ≠ (s.heap.push (emptyX w)).objs.size := by
        rw [two]
        exact Nat.ne_of_lt (Nat.lt_succ_of_lt lt)
      have apart : s.heap.objs.size ∉ [(s.heap.push (emptyX w)).objs.size, l] := by
        rw [two]
        simp only [List.mem_cons, List.not_mem_nil, or_false, not_or]
        exact ⟨Nat.ne_of_lt (Nat.lt_succ_self _), Nat.ne_of_gt lt⟩
      refine Qs.loop_add ((Walks.tuple calm3 _ l neI items).toS) s.heap.objs.size apart ts all few (items.size - 0) 0 _ (by omega) (Nat.zero_le _) ⟨⟨_, Heap.get?_push_size _ rfl, rfl, rfl⟩, (hl1.push _)⟩ ?_ ?_
      · exact Qs.fresh_x w (Heap.get?_push_of_some _ here)
      · rintro ⟨h', g', d', tk', os'⟩ mv fin
        obtain rfl : g' = s.gens := mv.gens
        obtain rfl : d' = s.drawn := mv.drawn
        obtain rfl : os' = s.os := mv.os
        show wpAny _ _ _ _ _ _
        refine wpAny_pure ?_
        show wpAny _ _ (ret Value.none) _ _ _
        refine wpAny_pure ⟨rfl, h', tk', rfl, fin, fun b o hb e => ?_⟩
        refine mv.heap b o ?_ (Heap.get?_push_of_some _ (Heap.get?_push_of_some _ e))
        rw [two]
        simp only [List.mem_cons, List.not_mem_nil, or_false, not_or]
        exact ⟨Nat.ne_of_lt hb, Nat.ne_of_lt (Nat.lt_succ_of_lt hb)⟩
    · rcases r₂ with e | fl₂
      · exact hr₂
      cases fl₂ with
      | next => exact hr₂.elim
      | brk => exact hr₂.elim
      | cont => exact hr₂.elim
      | ret v =>
        obtain ⟨rfl, h', tk, rfl, fin, kept⟩ := hr₂
        repeat (any_goals (first | assumption | wp_step))
        exact k _ _ fin kept
end
end PySem
set_option Elab.async false
set_option linter.all false
set_option maxRecDepth 100000
set_option maxHeartbeats 4000000
/-! sorted(a set of texts); the rules. -/
namespace Qs
open PySem PySem.Spec PyProof.Rows L2
section
variable {P : Program} {w : World} {A : Around} {E : Value → Shared → Prop} {s : Shared} {a : Addr} {ks : List Str}
theorem sorted_x {Q : Value → Shared → Prop} (R : SetX w s.heap a ks) (calm : A.handled = none) (few : ks.length < 64)
    (hQ : ∀ s' p (out : Array Value) (c : Nat) (ss : List Str), (∀ b o, s.heap.get? b = some o → s'.heap.get? b = some o) → s'.gens = s.gens → s'.os = s.os → s.heap.objs.size ≤ p →
      s'.heap.get? p = some (seqObj "list" out c) → StrsAre out.toList ss → ss.Perm ks → sortedS ss = true → Q (.ref p) s') :
    wpAny (model P w) A (call (.builtin "sorted") [.ref a]) Q E s := by
  obtain ⟨o, es, ep, t, hob, exact_, hdt, gd, pm, nd, fewS, fit, rise, led⟩ := R
  refine Calls.call_function_entry kind_sorted plain_sorted entry_sorted (args_sorted1 _) ?_
  unfold Builtin.«sorted»
  refine wpAny_bind (m := checkCount "sorted" 1 1 _) (wpAny_pure ?_)
  refine wpAny_bind (collect_set (A := A.in1) calm ⟨o, hob, exact_.1, hdt⟩ fit fewS rise led fun s1 vs kept grew same_g same_o pmv => ?_)
  have pmk : (vs.map strOf).Perm ks := by
    have q := pmv.map strOf
    rw [List.map_map] at q
    have e : es.toList.map (strOf ∘ fun x => x.2) = es.toList.map keyX := List.map_congr_left fun e he => by
      obtain ⟨x, tk, e1, _⟩ := gd e he
      show strOf e.2 = keyX e
      unfold keyX
      rw [e1]
      rfl
    rw [e] at q
    exact q.trans pm
  have hvl : vs.length = ks.length := by rw [← pmk.length_eq, List.length_map]
  have areS : StrsAre vs (vs.map strOf) := strsAre_map vs fun v hv => by
    obtain ⟨e, he, q⟩ := List.mem_map.mp (pmv.mem_iff.mp hv)
    obtain ⟨x, tk, e1, _⟩ := gd e he
    exact ⟨x, tk, by rw [← q]; exact e1⟩
  refine wpAny_bind (wpAny_newList ?_ (by rw [hvl, sizeLine_eq]; omega))
  have hoL : (s1.heap.push (seqObj "list" vs.toArray 0)).get? s1.heap.objs.size = some (seqObj "list" vs.toArray 0) := Heap.get?_push_size _ rfl
  refine wpAny_bind (wpAny_holding (wpAny_call_entry slot_list_sort ⟨_, hoL, rfl⟩ entry_list_sort (list_sort_treeK strKind_oneLt hoL areS.keysOf (fun v₁ v₂ rest e => keyKind_strs (by rw [← e]; exact areS)) (by rw [hvl]; exact few) fun st' hp hs => ⟨_, rfl, ?_⟩) (args_list_sort _)))
  obtain ⟨ss, g1, g2, g3⟩ := sorted_out_str areS hp hs
  obtain ⟨c, hc⟩ := sortedHeap_at (vs := vs) (out := (arrOf st').map (·.2)) hoL
  refine wpAny_pure ⟨_, rfl, hQ _ s1.heap.objs.size _ c ss (fun b u e => ?_) same_g same_o grew hc g1 (g2.trans pmk) g3⟩
  have q := kept b u e
  have lt := Heap.lt_size q
  show (sortedHeap (s1.heap.push (seqObj "list" vs.toArray 0)) s1.heap.objs.size vs ((arrOf st').map (·.2))).get? b = some u
  rw [sortedHeap_old (Nat.ne_of_lt lt) (by rw [size_push']; exact Nat.lt_succ_of_lt lt)]
  exact Heap.get?_push_of_some _ q
end
/-- a set of texts, as the layer tells it -/
def SetXO (w : World) (a : Addr) (ks : List Str) : HO := .ext fun h => SetX w h a ks
theorem setXO_ok {P : Program} {w : World} {H : Hp} {h : Heap} {a : Addr} {ks : List Str} (R : SetX w h a ks) : ObjOk P w H h a (SetXO w a ks) := by
  refine ⟨R, ?_, fun h1 h2 z k => SetX.at z k⟩
  obtain ⟨o, _, _, _, hob, _⟩ := R
  exact ⟨o, hob⟩
theorem valsX : ∀ {ts : List Str} {us : List Value}, Vals (ts.map V.str) us → us.length = ts.length ∧ ∀ (i : Nat) (v : Value), us[i]? = some v → ∃ x t, v = Value.str x t ∧ ts[i]? = some x
  | [], _, r => by
    cases r
    exact ⟨rfl, fun i v h => by simp at h⟩
  | x :: ts, _, r => by
    cases r with
    | cons h r =>
      obtain ⟨t, rfl⟩ := h
      obtain ⟨l, q⟩ := valsX r
      refine ⟨by rw [List.length_cons, List.length_cons, l], fun i v hv => ?_⟩
      cases i with
      | zero =>
        simp at hv
        exact ⟨x, t, hv.symm, by simp⟩
      | succ i => exact q i v (by simpa using hv)
theorem xVals : ∀ {ss : List Str} {us : List Value}, StrsAre us ss → Vals (ss.map V.str) us
  | _, _, .nil => .nil
  | _, _, .cons x t r => .cons ⟨t, rfl⟩ (xVals r)
section
variable {X : Cx}
/-- set(a list or tuple of texts) -/
def rSetX (K : PySem.W.Frag) (w : World) : List V → Hp → VK → Prop := fun xs G Q => ∃ (l : Addr) (ts : List Str), xs = [.ref l] ∧ (SqL K G l (ts.map V.str) ∨ SqT K G l (ts.map V.str)) ∧ ts.length + 1 < scanBound ∧
  ∀ a G', G a = none → Same G G' → G' a = some (SetXO w a (metOf ts ts.length)) → Q (.ref a) G'
theorem call_setX (hc : X.calm = true) : CallR X (.type "set") (rSetX X.K X.w) := by
  rintro pins s σ G xs us Q I r ⟨l, ts, rfl, hs, few, q⟩
  obtain ⟨u, rfl, ru⟩ := vals1 r
  obtain rfl : u = Value.ref l := ru
  have fin : ∀ (n : Nat), n = ts.length → ∀ (h' : Heap) (tk : Nat), SetX X.w h' s.heap.objs.size (metOf ts n) → (∀ b o, b < s.heap.objs.size → s.heap.get? b = some o → h'.get? b = some o) →
      EP X pins σ Q (.ref s.heap.objs.size) { s with heap := h', toks := tk } := fun n hn h' tk got kept => by
    subst hn
    have J := I.laid (t' := tk) (fun b u e => kept b u (Heap.lt_size e) e) (Nat.le_refl _) (setXO_ok got)
    exact ⟨.ref s.heap.objs.size, _, J, rfl, q _ _ I.fresh (Qh.Same.new I.fresh) upd_same⟩
  rcases hs with hs | hs
  · obtain ⟨its, rv, ⟨o, n, e1, e2, e3, e4⟩, _⟩ := I.list hs
    obtain ⟨len, all⟩ := valsX rv
    have hz : its.toArray.size = ts.length := by rw [List.size_toArray, len]
    exact set_of_list (ts := ts) (I.ok.hd hc) ⟨o, e1, e2, n, e4⟩ (fun i v h => all i v (by simpa using h)) (by rw [hz]; exact few) fun h' tk got kept => fin _ hz h' tk got kept
  · obtain ⟨its, rv, ⟨o, e1, e2, n, e4⟩, _⟩ := I.tuple hs
    obtain ⟨len, all⟩ := valsX rv
    have hz : its.toArray.size = ts.length := by rw [List.size_toArray, len]
    exact set_of_tuple (ts := ts) (I.ok.hd hc) ⟨o, e1, e2, n, e4⟩ (fun i v h => all i v (by simpa using h)) (by rw [hz]; exact few) fun h' tk got kept => fin _ hz h' tk got kept
/-- sorted(a set of texts) -/
def rSortX (w : World) : List V → Hp → VK → Prop := fun xs G Q => ∃ (a : Addr) (ks : List Str), xs = [.ref a] ∧ G a = some (SetXO w a ks) ∧ ks.length < 64 ∧
  ∀ (ss : List Str) p G', ss.Perm ks → sortedS ss = true → G p = none → Same G G' → G' p = some (.lst (ss.map V.str)) → Q (.ref p) G'
theorem call_sortX (hc : X.calm = true) : CallR X (.builtin "sorted") (rSortX X.w) := by
  rintro pins s σ G xs us Q I r ⟨a, ks, rfl, ha, few, q⟩
  obtain ⟨u, rfl, ru⟩ := vals1 r
  obtain rfl : u = Value.ref a := ru
  obtain ⟨R, _, _⟩ := I.hok a _ ha
  refine sorted_x R (I.ok.hd hc) few ?_
  intro s' p out c ss kept eg eo hp here areS pm so
  have free : G p = none := I.hok.fresh hp
  have J : Inv X pins σ (upd G p (.lst (ss.map V.str))) s' := I.call' (ch := []) eo (Un.laid kept hp free)
    (I.hok.laid kept hp ⟨by rw [List.length_map, pm.length_eq, sizeLine_eq]; omega, out.toList, c, xVals areS, by rw [Array.toArray_toList]; exact here⟩) (by rw [eg]; exact I.bare) (fun _ z => nomatch z)
  exact ⟨.ref p, _, J, rfl, q ss p _ pm so free (Qh.Same.new free) upd_same⟩
end
end Qs
set_option Elab.async false
set_option linter.all false
set_option maxRecDepth 100000
set_option maxHeartbeats 4000000
/-! Just one row of texts is sorted; ascending(values). -/
namespace Qs
open PySem PySem.Spec PyProof.Rows L2
def leX (a b : Str) : Prop := a.cps.toList ≤ b.cps.toList
theorem leX_of {a b : Str} (h : ltCps b.cps.toList a.cps.toList = false) : leX a b := by
  rw [ltCps_eq] at h
  exact List.not_lt.mp (of_decide_eq_false h)
theorem leX_trans {a b c : Str} (h : leX a b) (k : leX b c) : leX a c := List.le_trans h k
theorem leX_anti {a b : Str} (h : leX a b) (k : leX b a) : a = b := by
  have e : a.cps.toList = b.cps.toList := List.le_antisymm h k
  obtain ⟨x⟩ := a
  obtain ⟨y⟩ := b
  have e : x = y := Array.toList_inj.mp e
  rw [e]
theorem rising_pw : ∀ (r : List Str) (p : Str), risingS p r = true → (∀ y ∈ r, leX p y) ∧ r.Pairwise leX
  | [], p, _ => ⟨(fun y h => nomatch h), List.Pairwise.nil⟩
  | x :: r, p, h => by
    have h : (!ltCps x.cps.toList p.cps.toList && risingS x r) = true := h
    obtain ⟨h1, h2⟩ := Bool.and_eq_true_iff.mp h
    obtain ⟨ih1, ih2⟩ := rising_pw r x h2
    have px : leX p x := leX_of (by simpa using h1)
    refine ⟨fun y hy => ?_, List.pairwise_cons.mpr ⟨ih1, ih2⟩⟩
    rcases List.mem_cons.mp hy with rfl | hy
    · exact px
    · exact leX_trans px (ih1 y hy)
theorem sorted_pw : ∀ {l : List Str}, sortedS l = true → l.Pairwise leX
  | [], _ => List.Pairwise.nil
  | x :: r, h => by
    obtain ⟨h1, h2⟩ := rising_pw r x h
    exact List.pairwise_cons.mpr ⟨h1, h2⟩
/-- texts that are the same but for their order have one sorted row -/
theorem sorted_one {ss tt : List Str} (p : ss.Perm tt) (h : sortedS ss = true) (k : sortedS tt = true) : ss = tt :=
  List.Perm.eq_of_pairwise (fun a b _ _ h k => leX_anti h k) (sorted_pw h) (sorted_pw k) p
theorem more_nodup {ks : List Str} {x : Str} (h : ks.Nodup) : (more ks x).Nodup := by
  unfold more
  split
  · exact h
  · rename_i n
    exact List.nodup_cons.mpr ⟨n, h⟩
theorem fold_nodup : ∀ (l : List Str) {ks : List Str}, ks.Nodup → (l.foldl more ks).Nodup
  | [], _, h => h
  | x :: l, _, h => fold_nodup l (more_nodup h)
theorem met_nodup (l : List Str) : (metOf l l.length).Nodup := fold_nodup _ List.nodup_nil
/-- rows with the same texts have one set -/
theorem met_perm {l m : List Str} (h : ∀ y, y ∈ l ↔ y ∈ m) : (metOf l l.length).Perm (metOf m m.length) :=
  (List.perm_ext_iff_of_nodup (met_nodup l) (met_nodup m)).mpr fun y => by rw [met_mem, met_mem, h y]
/-- ss is the ascending row of the texts ts -/
def Asc (ts ss : List Str) : Prop := ss.Perm (metOf ts ts.length) ∧ sortedS ss = true
theorem asc_one {ts us ss tt : List Str} (h : Asc ts ss) (k : Asc us tt) (e : ∀ y, y ∈ ts ↔ y ∈ us) : ss = tt :=
  sorted_one ((h.1.trans (met_perm e)).trans k.1.symm) h.2 k.2
theorem asc_mem {ts ss : List Str} (h : Asc ts ss) (y : Str) : y ∈ ss ↔ y ∈ ts := by rw [h.1.mem_iff, met_mem]
theorem asc_len {ts ss : List Str} (h : Asc ts ss) : ss.length ≤ ts.length := by
  rw [h.1.length_eq]
  exact met_len ts ts.length
/-- ascending(values): the tuple -/
def spAsc (K : PySem.W.Frag) : Sp := fun vs G Q _ => ∃ (l : Addr) (ts : List Str), vs = [.ref l] ∧ (SqL K G l (ts.map V.str) ∨ SqT K G l (ts.map V.str)) ∧ ts.length < 64 ∧
  ∀ (ss : List Str) p G', Asc ts ss → G p = none → Same G G' → G' p = some (.tup (ss.map V.str)) → Q (.ref p) G'
end Qs
set_option Elab.async false
set_option linter.all false
set_option maxRecDepth 100000
set_option maxHeartbeats 4000000
/-! Own errors as plain values: any built-in base, values by position or by name. -/
namespace Qv
open PySem PySem.HandSPX
section
variable {M : Model} {A : Around} {E : Value → Shared → Prop} {h : Heap} {g : Array GenState} {d : Drawn} {t : Nat} {os : OsState} {prog : Program} {w : World} {R : Result → Shared → Prop}
variable {nm q : Str} {C N : Addr} {bs bm bmB : List Value} {hdct : Bool} {sn : List Str} {sub : List Value} {ab : Bool} {col : Option Bool} {dd : Option Addr} {k0 k1 k2 k3 k5 : Option Value} {B newId initId : String} {rest : List Value} {kw : List (Str × Value)}

/-- what new asks of the bases -/
def basesOk (B : String) (bm : List Value) : Bool := bm.contains (.type B) && (!bm.contains (.type "AttributeError") && !bm.contains (.type "NameError"))
end
section
open PySem.W Builtin Builtin.ObjectAttr
variable {prog : Program} {w : World} {A : Around} {R : Result → Shared → Prop} {K : W.Frag} {hp : Heap} {g : Array GenState} {d : Drawn} {t : Nat} {os : OsState} {name : Str} {tk : Tok} {v : Value} {x C : Addr} {fv : Array Value} {cd : ClassData} {B : String} {bmB : List Value}
end
end Qv
set_option Elab.async false
set_option linter.all false
set_option maxRecDepth 100000
/-! KeyError's own store of a field. -/
namespace Qv
open PySem PySem.F
end Qv
set_option Elab.async false
set_option linter.all false
set_option maxRecDepth 100000
set_option maxHeartbeats 4000000
/-! Own errors as plain values, in the layer of readings. -/
namespace Qv
open PySem PySem.Spec PyProof.Rows L2 Qh
/-- what the top says of an own error class, whatever its built-in base -/
structure OexG (K : PySem.W.Frag) (C : Addr) : Prop where
  cls : ∃ (B newId initId Bs : String) (bmN bmB : List Value) (nm q : Str) (N : Addr) (bs bm : List Value) (sn : List Str) (sub : List Value) (ab : Bool) (col : Option Bool) (dd : Option Addr) (k0 k1 k2 k3 k5 : Option Value),
    K.lookup C = some (excClassObj nm q C N bs bm true sn sub ab col dd k0 k1 k2 k3 k5 newId) ∧ basesOk B bm = true ∧ ExcBaseFacts B newId initId bmN ∧ StoreFacts Bs bmB "object.__setattr__" "object"  ∧ PySem.W.excOver K C bmB = true
  sa : PySem.W.findIn K (.ref C) "__setattr__" = some (some (.builtin "object.__setattr__"))
  kC : PySem.W.keepIn K (.ref C) = true
/-- the error of the class C at a, with these fields -/
def ErrAt (G : Hp) (a C : Addr) (fs : List (Str × V)) : Prop := ∃ d, G a = some (exo a C (some d)) ∧ G d = some (exd d fs)
theorem ErrAt.same {G G' : Hp} {a C : Addr} {fs : List (Str × V)} (e : ErrAt G a C fs) (s : Same G G') : ErrAt G' a C fs := by
  obtain ⟨d, h1, h2⟩ := e
  exact ⟨d, s _ _ h1, s _ _ h2⟩
/-- C.__init__(self, f, ..): self.f = f, .. -/
def spErrG (C : Addr) (fields : List Str) : Sp := fun vs G Q _ => ∃ (a : Addr) (ws : List V), vs = .ref a :: ws ∧ ws.length = fields.length ∧ G a = some (exo a C none) ∧
  ∀ d, G d = none → d ≠ a → Q .non (upd (upd G d (exd d (fields.zip ws).reverse)) a (exo a C (some d)))
section
variable {X : Cx} {pins : List (Addr × Obj)} {σ : L2.St} {H : Hp} {s : Shared} {a C dx : Addr} {f : Str} {y : V} {u : Value} {fs : List (Str × V)} {Q : Unit → Shared → Prop} {E : Value → Shared → Prop} {A : Around}
theorem OexG.data {K : PySem.W.Frag} {C : Addr} (T : OexG K C) : ∃ (B newId initId Bs : String) (bmN bmB : List Value) (nm q : Str) (N : Addr) (bs bm : List Value) (sn : List Str) (sub : List Value) (ab : Bool) (col : Option Bool) (dd : Option Addr) (k0 k1 k2 k3 k5 : Option Value) (cd : ClassData),
    K.lookup C = some (excClassObj nm q C N bs bm true sn sub ab col dd k0 k1 k2 k3 k5 newId) ∧ basesOk B bm = true ∧ ExcBaseFacts B newId initId bmN ∧ StoreFacts Bs bmB "object.__setattr__" "object" ∧ PySem.W.excOver K C bmB = true ∧ PySem.W.clsIn K C = some cd ∧ cd.hasDict = true := by
  obtain ⟨B, newId, initId, Bs, bmN, bmB, nm, q, N, bs, bm, sn, sub, ab, col, dd, k0, k1, k2, k3, k5, h1, h2, h3, h4, h5⟩ := T.cls
  exact ⟨B, newId, initId, Bs, bmN, bmB, nm, q, N, bs, bm, sn, sub, ab, col, dd, k0, k1, k2, k3, k5, { name := nm, bases := bs, mro := .ref C :: bm, ns := N, qualname := q, hasDict := true, slotNames := sn, subclasses := sub, abstract := ab, collection := col, hasDel := false },
    h1, h2, h3, h4, h5, by unfold PySem.W.clsIn; rw [h1] <;> rfl, rfl⟩
end
section
variable {X : Cx} {o e : Expr} {es : List Expr} {kws : List Keyword} {to te : TE} {ta : TA} {f x : Str} {p p' pos : Pos} {C : Addr} {fields : List Str}
end
end Qv
set_option Elab.async false
set_option linter.all false
set_option maxRecDepth 100000
set_option maxHeartbeats 4000000
/-! Own errors as plain values: made, read, told apart. -/
namespace Qv
open PySem PySem.Spec PyProof.Rows L2 Qh
/-- an own error class with this __init__ -/
structure ErrK (P : Program) (w : World) (K : PySem.W.Frag) (mg : Str → Option Value) (base : Heap) (x qn : Str) (pa : Arguments) (fields : List Str) (C : Addr) : Prop where
  g : mg x = some (.ref C)
  o : OexG K C
  xf : XfC K C
  ec : ExcC K C
  no : ∀ f ∈ fields, PySem.W.findIn K (.ref C) f = some none
  init : ∃ (fI : Addr) (body : List Stmt) (scope : Scope) (kV doc pm : Value) (an : Option Addr) (cdv ct : Value), PySem.W.findIn K (.ref C) "__init__" = some (some (.ref fI)) ∧ PySem.W.typeIn K (.ref fI) = some (.type "function") ∧
    (∀ us : List Value, us.length = fields.length + 1 → bindArgs (PySem.W.fnOf "__init__" qn pa body scope .none kV doc pm an cdv ct) ⟨us, []⟩ = pure ((("self" : Str) :: fields).zip us)) ∧
    FnOk P w K mg base (L2.CX P w) 1 fI (PySem.W.fnOf "__init__" qn pa body scope .none kV doc pm an cdv ct) (("self" : Str) :: fields) (spErrG C fields)
section
variable {X : Cx} {pins : List (Addr × Obj)} {σ : L2.St} {H1 : Hp} {s : Shared} {C fI : Addr} {fd : FuncData} {ps : List Str} {sp : Sp} {rest us : List Value} {kw : List (Str × Value)} {vs : List V} {Q : VK}
end
section
variable {X : Cx} {o e : Expr} {es : List Expr} {kws : List Keyword} {to te : TE} {ta : TA} {f x qn : Str} {pa : Arguments} {p pos : Pos} {C : Addr} {fields : List Str}
end
end Qv
set_option Elab.async false
set_option linter.all false
set_option maxRecDepth 100000
set_option maxHeartbeats 4000000
/-! Instances made where errors are wished for at the caller's slots; ascending(values). -/
namespace Qi
open PySem PySem.Spec PyProof.Rows L2 Qh
/-- C(e, ..), by a positional promise of its __init__ -/
def tMakeS (C : Addr) (sp : Sp) (E : L2.St → XK) (t : TA) : TE := fun σ H Q => t σ H fun vs H1 => ∀ x dx, H1 x = Option.none → H1 dx = Option.none → dx ≠ x →
  sp (V.ref x :: vs) (upd (upd H1 dx (.own x)) x (.ins C dx [])) (fun v H2 => v = .non ∧ Q (.ref x) H2) (E σ)
section
variable {X : Cx} {W : WX} {k : Nat} {f C : Addr} {sp : Sp} {x : Str} {e : Expr} {es : List Expr} {t : TA} {p pos : Pos}
theorem run_makeS {E : XK} {pins : List (Addr × Obj)} {σ : L2.St} {H : Hp} {s : Shared} {Q : VK} {us : List Value} {vs : List V} (M : Mk X.K C f) (F : FnR X.prog X.w X.K X.mg X.base (L2.CX X.prog X.w) k f sp) (hr : Room (k + 1) X.A)
    (hx : ∀ (H2 : Hp) (s2 : Shared) (er : Value) (s' : Shared), Inv X pins σ H2 s2 → L2.CX X.prog X.w X.stack H2 s2 E er s' → X.xe er s') (I : Inv X pins σ H s) (r : Vals vs us)
    (h : ∀ x dx, H x = Option.none → H dx = Option.none → dx ≠ x → sp (V.ref x :: vs) (upd (upd H dx (.own x)) x (.ins C dx [])) (fun v H2 => v = .non ∧ Q (.ref x) H2) E) :
    wpAny (model X.prog X.w) X.A (call (.ref C) us) (EP X pins σ Q) X.xe s := by
  have want := h (s.heap.objs.size + 1) s.heap.objs.size (I.hok.fresh (Nat.le_succ _)) (I.hok.fresh (Nat.le_refl _)) (Nat.ne_of_lt (Nat.lt_succ_self _))
  have J := Inv.made (C := C) I
  have rr : Vals (V.ref (s.heap.objs.size + 1) :: vs) (Value.ref (s.heap.objs.size + 1) :: us) := .cons rfl r
  refine wpAny_call (make_map (f := f) I.kIn M.makes M.init (beq_iff_eq.mp M.fn) (codeAny_mono (F _ X.stack _ _ (Value.ref (s.heap.objs.size + 1) :: us) _ _ E (hr.make C us []) (J.env0.make C us []) rr want) ?_))
  rintro (er | fl) s' hq
  · exact hx _ _ er s' J hq
  · cases fl with
    | next => exact hq.elim
    | brk => exact hq.elim
    | cont => exact hq.elim
    | ret u =>
      obtain ⟨v, H2, J2, rv, ev, q⟩ := J.after hq
      subst ev
      exact ⟨rv, .ref (s.heap.objs.size + 1), H2, J2, rfl, q⟩
theorem pe_makeS (M : Mk X.K C f) (F : FnR X.prog X.w X.K X.mg X.base (L2.CX X.prog X.w) k f sp) (hr : Room (k + 1) X.A) (tk : Takes X W) (hm : X.mg x = some (.ref C)) (ha : PA X (e :: es) t) (hg : Gl X x := by rfl) (hdb : (x == ("__debug__" : Str)) = false := by decide)
    (he : starEach (e :: es) X.env = (false, eval e X.env) :: starEach es X.env := by rfl) (hpl : (backTo pos (starEach es X.env)).any (·.1) = false := by rfl) : PE X (.Call (.Name x p) (e :: es) [] pos) (tMakeS C sp (WE W) t) := by
  constructor
  intro pins s σ H Q I h
  refine wpAny_Call_Name_kw (ld_glob I hg hm ?_ hdb)
  refine PySem.W.callWith_K (h₀ := X.base) I.ok.mod.kin M.kp (thn (ha.run pos pins s σ H _ I h) ?_) he hpl
  rintro us s1 ⟨vs, H1, I1, r, q⟩
  exact ⟨I1.kIn, run_makeS M F hr (fun H2 s2 er s' J c => passAt tk σ pins H2 s2 er s' J c) I1 r q⟩
/-- C() -/
theorem pe_makeS0 (M : Mk X.K C f) (F : FnR X.prog X.w X.K X.mg X.base (L2.CX X.prog X.w) k f sp) (hr : Room (k + 1) X.A) (tk : Takes X W) (hm : X.mg x = some (.ref C)) (hg : Gl X x := by rfl) (hdb : (x == ("__debug__" : Str)) = false := by decide) :
    PE X (.Call (.Name x p) [] [] pos) (tMakeS C sp (WE W) tNil) := by
  constructor
  intro pins s σ H Q I h
  refine wpAny_Call_Name_kw (ld_glob I hg hm ?_ hdb)
  refine PySem.W.callWith_K0 I.kIn M.kp ?_
  exact run_makeS M F hr (fun H2 s2 er s' J c => passAt tk σ pins H2 s2 er s' J c) I .nil h
end
/-- ascending(values): the tuple of the texts in order, each once -/
def spAsc (K : PySem.W.Frag) : Sp := fun vs G Q _ => ∃ (l : Addr) (ts : List Str), vs = [.ref l] ∧ (SqL K G l (ts.map V.str) ∨ SqT K G l (ts.map V.str)) ∧ ts.length < 64 ∧
  ∀ (ss : List Str) p G', Qs.Asc ts ss → G p = none → Same G G' → G' p = some (.tup (ss.map V.str)) → Q (.ref p) G'
theorem asc_read {K : PySem.W.Frag} {w : World} {G : Hp} {Q : VK} {l : Addr} {ts : List Str} (hs : SqL K G l (ts.map V.str) ∨ SqT K G l (ts.map V.str)) (few : ts.length < 64)
    (k : ∀ (ss : List Str) p G', Qs.Asc ts ss → G p = none → Same G G' → G' p = some (.tup (ss.map V.str)) → Q (.ref p) G') :
    Qs.rSetX K w [.ref l] G fun v1 G1 => Qs.rSortX w [v1] G1 fun v2 G2 => nTuple K [v2] G2 Q := by
  refine ⟨l, ts, rfl, hs, by unfold scanBound; omega, fun a G1 n1 s1 l1 => ?_⟩
  have len := Qs.met_len ts ts.length
  refine ⟨a, _, rfl, l1, by omega, fun ss b G2 pm so n2 s2 l2 => ?_⟩
  refine ⟨b, _, rfl, SqL.of l2, fun c G3 n3 s3 l3 => ?_⟩
  exact k ss c G3 ⟨pm, so⟩ ((s1.trans s2).free n3) ((s1.trans s2).trans s3) l3
end Qi
set_option Elab.async false
set_option linter.all false
set_option maxRecDepth 100000
set_option maxHeartbeats 4000000
/-! def f(a, .., *v, k): called with values and k = value; instances made so; own errors with several fields, raised. -/
namespace Qi
open PySem PySem.Spec PyProof.Rows L2 Qh StX
/-- the promise of such a def: the values, then the keyword's value -/
def FnRK (P : Program) (w : World) (K : PySem.W.Frag) (mg : Str → Option Value) (base : Heap) (CX : CXT) (k : Nat) (f : Addr) (pk : Str) (sp : Sp) : Prop :=
  ∀ (A : Around) (outer : List Env) (s : Shared) (H : Hp) (us : List Value) (u : Value) (vs : List V) (z : V) (Q : VK) (E : XK), Room k A → Env0 P w K mg base A outer s H → Vals vs us → RelV z u → sp (vs ++ [z]) H Q E →
    codeAny (model P w) A (.call (.ref f) ⟨us, [(pk, u)]⟩) (CR CX outer P w H s Q E) s
section
variable {CX : CXT} {P : Program} {w : World} {K : PySem.W.Frag} {mg : Str → Option Value} {base : Heap} {k : Nat} {f : Addr} {name qual : Str} {params : Arguments} {body : List Stmt} {scope : Scope} {dV kV doc pm cdv ct oc : Value} {an od : Option Addr}
  {osl : Array (Option Value)} {N ps : List Str} {sp : Sp}
theorem fn_starK {pv pk : Str} (lk : K.lookup f = some ⟨oc, od, .func (PySem.W.fnOf name qual params body scope dV kV doc pm an cdv ct), osl⟩) (hcd : PySem.W.codeIn K cdv qual = true) (S : FnScope N (ps ++ [pk, pv]) scope) (hCX : CXUp CX)
    (hb : ∀ (us rest : List Value) (u : Value), us.length = ps.length → bindArgs (PySem.W.fnOf name qual params body scope dV kV doc pm an cdv ct) ⟨us ++ rest, [(pk, u)]⟩ = (newTuple rest >>= fun t => pure (ps.zip us ++ [(pk, u), (pv, t)])))
    (hbody : ∀ (A : Around) (outer : List Env) (s : Shared) (H : Hp) (vs : List V) (Q : VK) (E : XK), Room k (A.deeper (envOfC qual scope s.heap.objs.size f cdv)) → sp vs H Q E →
      ∃ t, PSs (cxOf CX P w K mg base N qual scope f cdv A outer s H E) body t ∧ t { nx := fun _ H' => Q .non H', rt := Q } (start N vs) H) :
    FnRK P w K mg base CX (k + 1) f pk (fun vs H Q E => ∃ ws rest z, vs = ws ++ rest ++ [z] ∧ ws.length = ps.length ∧ rest.length ≤ sizeLine ∧ ∀ p, H p = Option.none → sp (ws ++ [z, V.ref p]) (upd H p (.tup rest)) Q E) := by
  intro A outer s H us u vs z Q E hr e0 r rz hsp
  obtain ⟨ws, rest, z', ev, hl, few, want⟩ := hsp
  obtain ⟨e1, e2⟩ := List.append_inj' ev rfl
  obtain rfl : z = z' := by simpa using e2
  subst e1
  obtain ⟨u1, u2, rfl, r1, r2⟩ := vals_split r
  have free : H s.heap.objs.size = Option.none := e0.hok.fresh (Nat.le_refl _)
  have len1 : u1.length = ps.length := by rw [← r1.length]; exact hl
  have len2 : u2.length ≤ sizeLine := by rw [← r2.length]; exact few
  refine run_bnd (ps := ps ++ [pk, pv]) lk hcd S hr e0 (G := fun xs H2 => ∃ p, H p = Option.none ∧ xs = ws ++ [z, V.ref p] ∧ H2 = upd H p (.tup rest)) (fun A' Ex Q' h => ?_) ?_
  · rw [hb u1 u2 u len1]
    refine wpAny_bind (wpAny_newTuple (wpAny_pure ?_) len2)
    have new : ObjOk P w (upd H s.heap.objs.size (.tup rest)) (s.heap.push ({ cls := .type "tuple", data := .seq u2.toArray } : Obj)) s.heap.objs.size (.tup rest) := ⟨few, u2, r2, ⟨_, Heap.get?_push_size _ rfl, rfl, _, rfl⟩⟩
    have un := un_laid (fs := frs outer) (s := s) (o := ({ cls := .type "tuple", data := .seq u2.toArray } : Obj)) (u := .tup rest) free
    have got := h _ _ (ws ++ [z, V.ref s.heap.objs.size]) (u1 ++ [u, Value.ref s.heap.objs.size]) (env0_laid e0 new) un rfl (fun e s' => hCX outer s H _ _ E e s' un (fun b o q => Heap.get?_push_of_some _ q) rfl) (r1.append (.cons rz (.cons rfl .nil)))
      (by rw [List.length_append, List.length_append, hl] <;> rfl) ⟨_, free, rfl, rfl⟩
    rw [List.zip_append len1.symm] at got
    exact got
  · rintro s2 H2 xs ⟨p, hp, rfl, rfl⟩ hr'
    exact hbody A outer s2 _ _ Q E hr' (want p hp)
end
/-- C(e, .., pk = v) -/
def tMakeSK (C : Addr) (sp : Sp) (E : L2.St → XK) (t tk : TA) : TE := fun σ H Q => t σ H fun vs H1 => tk σ H1 fun zs H2 => ∃ z, zs = [z] ∧ ∀ x dx, H2 x = Option.none → H2 dx = Option.none → dx ≠ x →
  sp (V.ref x :: vs ++ [z]) (upd (upd H2 dx (.own x)) x (.ins C dx [])) (fun v H3 => v = .non ∧ Q (.ref x) H3) (E σ)
section
variable {X : Cx} {W : WX} {k : Nat} {f C : Addr} {sp : Sp} {x pk : Str} {e : Expr} {es : List Expr} {kws : List Keyword} {t tkw : TA} {p pos : Pos}
theorem run_makeSK {E : XK} {pins : List (Addr × Obj)} {σ : L2.St} {H : Hp} {s : Shared} {Q : VK} {us : List Value} {u : Value} {vs : List V} {z : V} (M : Mk X.K C f) (F : FnRK X.prog X.w X.K X.mg X.base (L2.CX X.prog X.w) k f pk sp) (hr : Room (k + 1) X.A)
    (hx : ∀ (H2 : Hp) (s2 : Shared) (er : Value) (s' : Shared), Inv X pins σ H2 s2 → L2.CX X.prog X.w X.stack H2 s2 E er s' → X.xe er s') (I : Inv X pins σ H s) (r : Vals vs us) (rz : RelV z u)
    (h : ∀ x dx, H x = Option.none → H dx = Option.none → dx ≠ x → sp (V.ref x :: vs ++ [z]) (upd (upd H dx (.own x)) x (.ins C dx [])) (fun v H2 => v = .non ∧ Q (.ref x) H2) E) :
    wpAny (model X.prog X.w) X.A (call (.ref C) us [(pk, u)]) (EP X pins σ Q) X.xe s := by
  have want := h (s.heap.objs.size + 1) s.heap.objs.size (I.hok.fresh (Nat.le_succ _)) (I.hok.fresh (Nat.le_refl _)) (Nat.ne_of_lt (Nat.lt_succ_self _))
  have J := Inv.made (C := C) I
  have rr : Vals (V.ref (s.heap.objs.size + 1) :: vs) (Value.ref (s.heap.objs.size + 1) :: us) := .cons rfl r
  refine wpAny_call (make_map (f := f) I.kIn M.makes M.init (beq_iff_eq.mp M.fn) (codeAny_mono (F _ X.stack _ _ (Value.ref (s.heap.objs.size + 1) :: us) u _ z _ E (hr.make C us [(pk, u)]) (J.env0.make C us [(pk, u)]) rr rz want) ?_))
  rintro (er | fl) s' hq
  · exact hx _ _ er s' J hq
  · cases fl with
    | next => exact hq.elim
    | brk => exact hq.elim
    | cont => exact hq.elim
    | ret v' =>
      obtain ⟨v, H2, J2, rv, ev, q⟩ := J.after hq
      subst ev
      exact ⟨rv, .ref (s.heap.objs.size + 1), H2, J2, rfl, q⟩
theorem pe_makeSK (M : Mk X.K C f) (F : FnRK X.prog X.w X.K X.mg X.base (L2.CX X.prog X.w) k f pk sp) (hr : Room (k + 1) X.A) (tk : Takes X W) (hm : X.mg x = some (.ref C)) (ha : PA X (e :: es) t) (hkw : PK X kws tkw) (hg : Gl X x := by rfl) (hdb : (x == ("__debug__" : Str)) = false := by decide)
    (hall : (backToKw pos (keywordEach kws X.env)).all (·.1.isSome) = true := by rfl) (hks : (backToKw pos (keywordEach kws X.env)).filterMap (·.1) = [pk] := by rfl)
    (he : starEach (e :: es) X.env = (false, eval e X.env) :: starEach es X.env := by rfl) (hpl : ((backTo pos (starEach (e :: es) X.env)).any (·.1) || (backToKw pos (keywordEach kws X.env)).any (·.1.isNone)) = false := by rfl) :
    PE X (.Call (.Name x p) (e :: es) kws pos) (tMakeSK C sp (WE W) t tkw) := by
  constructor
  intro pins s σ H Q I h
  refine wpAny_Call_Name_kw (ld_glob I hg hm ?_ hdb)
  refine PySem.W.callWith_KW (h₀ := X.base) I.ok.mod.kin M.kp hall (thn (ha.run pos pins s σ H _ I h) ?_) hpl he
  rintro us s1 ⟨vs, H1, I1, r, q⟩
  refine thn (hkw.run pos pins s1 σ H1 _ I1 q) ?_
  rintro ws s2 ⟨zs, H2, I2, rz, z, rfl, q2⟩
  refine ⟨I2.kIn, ?_⟩
  rw [hks]
  cases rz with
  | cons r1 r2 =>
    cases r2
    exact run_makeSK M F hr (fun H3 s3 er s' J c => passAt tk σ pins H3 s3 er s' J c) I2 r r1 q2
end
/-! ### own errors with several fields, raised -/
structure ErrN (P : Program) (w : World) (K : PySem.W.Frag) (mg : Str → Option Value) (base : Heap) (x : Str) (fields : List Str) (C : Addr) : Prop where
  c : ErrC K mg x C
  no : ∀ f ∈ fields, PySem.W.findIn K (.ref C) f = some none
  init : ∃ (fI : Addr) (fd : FuncData), PySem.W.findIn K (.ref C) "__init__" = some (some (.ref fI)) ∧ PySem.W.typeIn K (.ref fI) = some (.type "function") ∧ Binds K fd (("self" : Str) :: fields) [] ∧
    FnOk P w K mg base (L2.CX P w) 1 fI fd (("self" : Str) :: fields) (Qv.spErrG C fields)
section
variable {X : Cx} {x : Str} {C : Addr} {fields : List Str} {e : Expr} {es : List Expr} {t : TA} {p pos : Pos}
theorem pmk_errN (T : ErrN X.prog X.w X.K X.mg X.base x fields C) (hr : Room 2 X.A) (ha : PA X (e :: es) t) (hg : Gl X x := by rfl) (hdb : (x == ("__debug__" : Str)) = false := by decide)
    (hs : starEach (e :: es) X.env = (false, eval e X.env) :: starEach es X.env := by rfl) (hpl : (backTo pos (starEach es X.env)).any (·.1) = false := by rfl) :
    PMk X (.Call (.Name x p) (e :: es) [] pos) (tMkO C (Qv.spErrG C fields) [] t) := by
  obtain ⟨fI, fd, iC, tI, hb, F⟩ := T.init
  exact pmk_oex (p := p) (pos := pos) T.c.o iC tI F hr hb .nil passL hg T.c.g ha hdb hs hpl
end
/-- .. what its reading ends in -/
theorem errN_end {fields : List Str} {C : Addr} {ws : List V} {G1 : Hp} {Q : XK} (hl : ws.length = fields.length) (few : ws.length ≤ 1000) (q : ∀ d, G1 d = none → Q (.ref C) (some d) (upd G1 d (.xd (fields.zip ws).reverse))) :
    ws.length ≤ 1000 ∧ ∀ a, G1 a = none → Qv.spErrG C fields (.ref a :: (ws ++ [])) (upd G1 a (exo a C none))
      (fun v H2 => v = .non ∧ ∃ (d : Addr) (fs : List (Str × V)), H2 a = some (exo a C (some d)) ∧ H2 d = some (exd d fs) ∧ G1 d = none ∧ Q (.ref C) (some d) (upd (del H2 a) d (.xd fs))) (fun _ _ _ => False) := by
  refine ⟨few, fun a ha => ⟨a, ws, by rw [List.append_nil], hl, upd_same, fun d hd da => ⟨rfl, d, (fields.zip ws).reverse, upd_same, ?_, ?_, ?_⟩⟩⟩
  · rw [upd_ne da, upd_same]
  · rw [upd_ne da] at hd
    exact hd
  · rw [err_heap ha da]
    rw [upd_ne da] at hd
    exact q d hd
end Qi
set_option Elab.async false
set_option linter.all false
set_option maxRecDepth 100000
set_option maxHeartbeats 4000000
/-! C() of a class without own __init__. -/
namespace Qp
open PySem PySem.Spec PyProof.Rows L2 TL Qh SlX PySem.W NwA
section
variable {X : Cx} {C : Addr} {x : Str} {p pos : Pos}
end
end Qp
set_option Elab.async false
set_option linter.all false
set_option maxRecDepth 100000
set_option maxHeartbeats 4000000
namespace K07
open PySem PySem.Spec PyProof.Rows L2 TL Qh Qi Ql Qp ClX
abbrev sAsc : Stmt := top 16
abbrev sIsEnding : Stmt := top 21
abbrev sIsKeep : Stmt := top 25
abbrev sErrInit : Stmt := inClass (top 5) 0
/-- is_ending -/
def endingV (v : V) : Bool := lettersV v 4
def spIsEnding (K : PySem.W.Frag) : Sp := fun vs G Q _ => ∃ v, vs = [v] ∧ Known K G v ∧ ∀ G', Same G G' → Q (.bl (endingV v)) G'
theorem seqT_same {K : PySem.W.Frag} {G G' : Hp} {a : Addr} {xs : List V} (s : Same G G') (h : SqT K G a xs) : SqT K G' a xs := by
  rcases h with (h | ⟨o, h⟩) | h
  · exact .inl (.inl (s _ _ h))
  · exact .inl (.inr ⟨o, s _ _ h⟩)
  · exact .inr h
theorem tyL {K : PySem.W.Frag} {G : Hp} {a : Addr} {xs : List V} (h : SqL K G a xs) : TyX K G (.ref a) (.type "list") := by
  rcases h with (h | ⟨o, h⟩) | ⟨o, its, n, h, c, _⟩
  · exact .base (.lst h)
  · exact .base (.frz h)
  · exact .kList h c
theorem tyT {K : PySem.W.Frag} {G : Hp} {a : Addr} {xs : List V} (h : SqT K G a xs) : TyX K G (.ref a) (.type "tuple") := by
  rcases h with (h | ⟨o, h⟩) | ⟨o, its, n, h, c, _⟩
  · exact .base (.tup h)
  · exact .fTuple h
  · exact .kTuple h c
abbrev seqTys : List Value := [.type "list", .type "tuple"]
/-- a value given as keep: the values of a list or a tuple, or no such thing -/
def KeepAt (K : PySem.W.Frag) (G : Hp) (kv : V) : Option (List V) → Prop
  | some xs => ∃ a, kv = .ref a ∧ (SqL K G a xs ∨ SqT K G a xs) ∧ xs.length ≤ 1000 ∧ ∀ v ∈ xs, ∀ G', Same G G' → Known K G' v
  | none => ∃ t, TyX K G kv t ∧ PySem.W.kitAny K t seqTys = some false
def keepOk : Option (List V) → Bool
  | some xs => decide (xs.length ≤ 20) && xs.all wordV
  | none => false
def spIsKeep (K : PySem.W.Frag) : Sp := fun vs G Q _ => ∃ kv ko, vs = [kv] ∧ (∀ G', Same G G' → KeepAt K G' kv ko) ∧ ∀ G', Same G G' → Q (.bl (keepOk ko)) G'
theorem kit_list {K : PySem.W.Frag} : PySem.W.kitAny K (.type "list") seqTys = some true := kitAny_cons (kit_ty (r := true) (by decide +kernel)) (fun z => nomatch z) fun _ => rfl
theorem kit_tup {K : PySem.W.Frag} : PySem.W.kitAny K (.type "tuple") seqTys = some true := kitAny_cons (kit_ty (r := false) (by decide +kernel)) (fun _ => kitAny_cons (kit_ty (r := true) (by decide +kernel)) (fun z => nomatch z) fun _ => rfl) fun z => nomatch z
def ixV : Option Nat → V
  | none => .non
  | some i => .int (i : Int)
theorem txt_of {m : Int} {v : V} (h : lettersV v m = true) : ∃ x, v = .str x := by
  cases v with
  | str x => exact ⟨x, rfl⟩
  | _ => cases h
theorem all_txt : ∀ {xs : List V}, (∀ v ∈ xs, ∃ x, v = .str x) → ∃ ts : List Str, xs = ts.map V.str
  | [], _ => ⟨[], rfl⟩
  | v :: xs, h => by
    obtain ⟨x, rfl⟩ := h _ List.mem_cons_self
    obtain ⟨ts, e⟩ := all_txt fun v hv => h v (List.mem_cons_of_mem _ hv)
    exact ⟨x :: ts, by rw [e]; rfl⟩
def ErrStep (G G' : Hp) (d : Addr) (reason : Str) (i : V) : Prop := G d = none ∧ Same G G' ∧ G' d = some (.xd [("index", i), ("reason", .str reason)])
theorem two_of {l : List V} (h : l.length = 2) : ∃ a b, l = [a, b] := match l, h with
  | [a, b], _ => ⟨a, b, rfl⟩
theorem heap2 {G : Hp} {a d : Addr} {x y z : HO} (n : d ≠ a) : L2.upd (L2.upd (L2.upd G d x) a y) d z = L2.upd (L2.upd G d z) a y := by
  funext b
  by_cases hb : b = d
  · subst hb
    rw [upd_same, upd_ne n, upd_same]
  · rw [upd_ne hb]
    by_cases ha : b = a
    · subst ha
      rw [upd_same, upd_same]
    · rw [upd_ne ha, upd_ne hb, upd_ne ha, upd_ne hb]
theorem tup_ne_ins {G : Hp} {D C dx : Addr} {fs : List (Str × V)} (h : G D = some (.ins C dx fs)) : ∀ a t, G a = some (.tup t) → a ≠ D := fun a t e z => by
  rw [z, h] at e
  cases e
theorem add_len (x y : Str) : (x ++ y).length = x.length + y.length := by rw [len_tl, tl_append, List.length_append, ← len_tl, ← len_tl]
section
variable {P : Program} {w : World} {K : PySem.W.Frag} {mg : Str → Option Value} {base : Heap}
theorem scAsc : FnScope ["values"] ["values"] (defScope sAsc) := ⟨rfl, rfl, rfl, by decide +kernel, rfl, by decide +kernel, by decide +kernel⟩
theorem ok_asc (D : DefIn K mg "ascending" sAsc) (B : Blt mg) : Ok P w K mg base "ascending" (defArgs sAsc) ["values"] 1 (Qi.spAsc K) := by
  refine D.ok scAsc (fun vs G Q E h => ?_) (fun _ _ _ _ _ _ us hl => match us, hl with | [_], _ => rfl) (fun f cdv A out t G vs Q E hr h => ?_)
  · obtain ⟨l, ts, rfl, _⟩ := h
    rfl
  · obtain ⟨l, ts, rfl, hs, few, k⟩ := h
    refine ⟨_, pss_one (ps_ret (pe_callTy cn_tuple (by rfl) B.n_tuple bt_tuple (pa_cons (pe_callB (Qs.call_sortX rfl) (by rfl) B.n_sorted bt_sorted (pa_cons (pe_callTy (Qs.call_setX rfl) (by rfl) B.n_set bt_set (pa_cons (pv 0) pa_nil)) pa_nil)) pa_nil))), ?_⟩
    exact ⟨_, rfl, asc_read (w := w) hs few k⟩
theorem scErrInit : FnScope ["self", "reason", "index"] ["self", "reason", "index"] (defScope sErrInit) := ⟨rfl, rfl, rfl, by decide +kernel, rfl, by decide +kernel, by decide +kernel⟩
theorem ok_errInit {C f : Addr} {fd : FuncData} (F : Fun K "__init__" "InvalidStep.__init__" sErrInit f fd) (T : OexC K C) (no : ∀ x ∈ (["reason", "index"] : List Str), PySem.W.findIn K (.ref C) x = some none) : FnOk P w K mg base (L2.CX P w) 1 f fd ["self", "reason", "index"] (Qv.spErrG C ["reason", "index"]) := by
  refine F.okX scErrInit (fun vs G Q E h => ?_) (fun cdv A out t G vs Q E hr h => ?_)
  · obtain ⟨a, ws, rfl, hl, _⟩ := h
    rw [List.length_cons, hl]
    rfl
  · obtain ⟨a, ws, rfl, hl, ha, k⟩ := h
    obtain ⟨y1, y2, rfl⟩ := two_of hl
    refine ⟨_, pss_cons (ps_ost (pv 0) (pv 1)) (pss_one (ps_ost (pv 0) (pv 2))), ?_⟩
    refine ⟨_, rfl, _, rfl, a, C, rfl, T, no _ List.mem_cons_self, .inl ⟨ha, fun dx hd da => ?_⟩⟩
    refine ⟨_, rfl, _, rfl, a, C, rfl, T, no _ (List.mem_cons_of_mem _ List.mem_cons_self), .inr ⟨dx, _, upd_same, by rw [upd_ne da, upd_same], by show 1 ≤ 900; decide, ?_⟩⟩
    rw [heap2 da]
    exact k dx hd da
theorem scIsEnding : FnScope ["value"] ["value"] (defScope sIsEnding) := ⟨rfl, rfl, rfl, by decide +kernel, rfl, by decide +kernel, by decide +kernel⟩
theorem ok_isEnding (D : DefIn K mg "is_ending" sIsEnding) (hM : ∃ t, mg "MOST_ENDING_LETTERS" = some (.int 4 t)) (F_is_letters : Ok P w K mg base "is_letters" (defArgs sLetters) ["value", "most"] 1 (spLetters K)) : Ok P w K mg base "is_ending" (defArgs sIsEnding) ["value"] 2 (spIsEnding K) := by
  refine D.ok scIsEnding (fun vs G Q E h => ?_) (fun _ _ _ _ _ _ us hl => match us, hl with | [_], _ => rfl) (fun f cdv A out t G vs Q E hr h => ?_)
  · obtain ⟨v, rfl, _⟩ := h
    rfl
  · obtain ⟨v, rfl, hv, k⟩ := h
    obtain ⟨tk, hM⟩ := hM
    refine ⟨_, pss_one (ps_ret (pe_own F_is_letters (hr.mono (by decide)) takes0 (pa_cons (pv 0) (pa_cons (pe_glob (v := .int 4) rfl hM ⟨_, rfl⟩) pa_nil)))), ?_⟩
    exact ⟨_, rfl, v, 4, rfl, hv, k⟩
theorem scIsKeep : FnScope ["keep", "word"] ["keep"] (defScope sIsKeep) := ⟨rfl, rfl, rfl, by decide +kernel, rfl, by decide +kernel, by decide +kernel⟩
theorem ok_isKeep (D : DefIn K mg "is_keep" sIsKeep) (B : Blt mg) (hM : ∃ t, mg "MOST_KEPT" = some (.int 20 t)) (F_is_word : Ok P w K mg base "is_word" (defArgs sIsWord) ["value"] 2 (spIsWord K)) :
    Ok P w K mg base "is_keep" (defArgs sIsKeep) ["keep"] 3 (spIsKeep K) := by
  obtain ⟨tM, hM⟩ := hM
  refine D.ok scIsKeep (fun vs G Q E h => ?_) (fun _ _ _ _ _ _ us hl => match us, hl with | [_], _ => rfl) (fun f cdv A out t G vs Q E hr h => ?_)
  · obtain ⟨kv, ko, rfl, _⟩ := h
    rfl
  · obtain ⟨kv, ko, rfl, hk, k⟩ := h
    refine ⟨_, (pss_cons (ps_if (PW.pt (pw_or (pt_not (pt_val (pe_callB call_isiT (by rfl) B.n_isinstance bt_isinstance (pa_cons (pv 0) (pa_cons (pn_tup (pa_cons (pe_bltn (v := .ty "list") (by rfl) B.n_list bt_list rfl) (pa_cons (pe_bltn (v := .ty "tuple") (by rfl) B.n_tuple bt_tuple rfl) pa_nil))) pa_nil))))) (pw_or1 (pt_cmpR op_gt (pe_callB (call_len (X := _)) (by rfl) B.n_len bt_len (pa_cons (pv 0) pa_nil)) (pe_glob (v := .int 20) rfl hM ⟨_, rfl⟩) (nomark _))))) (pss_one (ps_ret pe_bl)) pss_nil)
    (pss_one (ps_ret (pe_callB (cr_all rfl) (by rfl) B.n_all bt_all (pa_cons (pe_lc (own := [("word", 1)]) (tt := tYes) rfl scIsKeep.nd (pi_seq (pv 0)) (blkOk_by (N := ["keep", "word"]) (sc := defScope sIsKeep) (by decide +kernel)) (fun _ _ _ _ _ => pg_name (i := 1) scIsKeep.nd rfl (by first | exact Or.inl rfl | exact Or.inr rfl)) (fun _ _ _ _ _ => pts_nil) (fun _ _ _ _ _ => (pe_own F_is_word (hr.mono (by decide)) takes0 (pa_cons (pv 1) pa_nil)))) pa_nil))))), ?_⟩
    refine ⟨_, rfl, by show 2 ≤ sizeLine; decide, fun tp G1 ntp s1 htp => ?_⟩
    have tys : Paired ClsV [V.ty "list", V.ty "tuple"] seqTys := .cons (.ty _) (.cons (.ty _) .nil)
    cases ko with
    | none =>
      obtain ⟨ty, hty, hkit⟩ := hk G1 s1
      refine ⟨kv, tp, _, ty, _, _, rfl, htp, tys, hty, hkit, _, rfl, ?_⟩
      exact iteT (k G1 s1)
    | some xs =>
      obtain ⟨a, rfl, hS, hn, hv⟩ := hk G1 s1
      have hT : ∃ ty, TyX K G1 (.ref a) ty ∧ PySem.W.kitAny K ty seqTys = some true := by
        rcases hS with h | h
        · exact ⟨_, tyL h, kit_list⟩
        · exact ⟨_, tyT h, kit_tup⟩
      obtain ⟨ty, hty, hkit⟩ := hT
      refine ⟨_, tp, _, ty, _, _, rfl, htp, tys, hty, hkit, _, rfl, ?_⟩
      refine iteF ?_
      refine ⟨_, rfl, .ref a, _, rfl, (by rcases hS with h | h; exact .inl ⟨_, h, rfl⟩; exact .inr ⟨_, h, rfl⟩), _, _, rfl, rfl, _, rfl, ?_⟩
      have k := k
      refine ite2 (fun h1 => ?_) (fun h1 => ?_)
      · have e : keepOk (some xs) = false := by
          have h1 := of_decide_eq_true h1
          show (decide (xs.length ≤ 20) && xs.all wordV) = false
          rw [decide_eq_false (show ¬ xs.length ≤ 20 by omega)]
          rfl
        rw [e] at k
        exact k G1 s1
      · have h1 : xs.length ≤ 20 := by
          have : ¬ (xs.length : Int) > 20 := by simpa using h1
          omega
        have hs : ∀ (D : Addr), G1 D = none → ∀ i x H, xs[i]? = some x → (Same G1 H ∧ H D = some (.lst ((xs.take i).map fun y => V.bl (wordV y)))) → ∀ G2, Same H G2 → ∃ acc, G2 D = some (.lst acc) ∧ acc.length < sizeLine ∧ (Same G1 (L2.upd G2 D (.lst (acc ++ [V.bl (wordV x)]))) ∧ (L2.upd G2 D (.lst (acc ++ [V.bl (wordV x)]))) D = some (.lst ((xs.take (i + 1)).map fun y => V.bl (wordV y)))) := fun D hD i x H hi ⟨sm, hl⟩ G2 s2 => by
          refine ⟨_, s2 _ _ hl, ?_, Qh.Same.fresh (sm.trans s2) hD, ?_⟩
          · rw [List.length_map, List.length_take]
            exact Nat.lt_of_le_of_lt (show _ ≤ 1000001 by omega) (by decide)
          · rw [upd_same, take_get hi, List.map_append]
            rfl
        have hd : ∀ (D : Addr) H, (Same G1 H ∧ H D = some (.lst ((xs.take xs.length).map fun y => V.bl (wordV y)))) → ∃ (l : Addr) (bs : List Bool), V.ref D = V.ref l ∧ SqL K H l (bs.map V.bl) ∧ Q (.bl (bs.all id)) H := fun D H ⟨sm, hl⟩ => by
          rw [List.take_length] at hl
          have eb : xs.map (fun y => V.bl (wordV y)) = (xs.map wordV).map V.bl := by
            rw [List.map_map]
            rfl
          rw [eb] at hl
          refine ⟨D, xs.map wordV, rfl, SqL.of hl, ?_⟩
          have e : (xs.map wordV).all id = keepOk (some xs) := by
            show _ = (decide (xs.length ≤ 20) && xs.all wordV)
            rw [decide_eq_true h1, List.all_map]
            rfl
          rw [e]
          exact k H (s1.trans sm)
        rcases hS with hL | hL
        · refine ⟨_, rfl, a, rfl, .inl ⟨⟨_, hL⟩, fun D hD => ?_⟩⟩
          refine lc_list (fun i H => Same G1 H ∧ H D = some (.lst ((xs.take i).map fun y => V.bl (wordV y)))) ⟨Qh.Same.new hD, by rw [upd_same]; rfl⟩ (fun i H _ ⟨sm, _⟩ => sm.seq hL) ?_ ?_
          · rintro i x H hi ⟨sm, hl⟩
            exact ⟨rfl, _, rfl, x, rfl, hv x (List.mem_of_getElem? hi) H sm, fun G2 s2 => hs D hD i x H hi ⟨sm, hl⟩ G2 s2⟩
          · intro H h
            obtain ⟨l, bs, e, h2, q⟩ := hd D H h
            exact ⟨l, bs, by rw [e], h2, q⟩
        · refine ⟨_, rfl, a, rfl, .inr ⟨⟨_, hL⟩, fun D hD => ?_⟩⟩
          refine lc_tup (fun i H => Same G1 H ∧ H D = some (.lst ((xs.take i).map fun y => V.bl (wordV y)))) ⟨Qh.Same.new hD, by rw [upd_same]; rfl⟩ (fun i H _ ⟨sm, _⟩ => seqT_same sm hL) ?_ ?_
          · rintro i x H hi ⟨sm, hl⟩
            exact ⟨rfl, _, rfl, x, rfl, hv x (List.mem_of_getElem? hi) H sm, fun G2 s2 => hs D hD i x H hi ⟨sm, hl⟩ G2 s2⟩
          · intro H h
            obtain ⟨l, bs, e, h2, q⟩ := hd D H h
            exact ⟨l, bs, by rw [e], h2, q⟩
end
end K07
set_option Elab.async false
set_option linter.all false
set_option maxRecDepth 100000
set_option maxHeartbeats 4000000
/-! def __init__(self, *words): super().__init__(*words) -/
namespace Qu
open PySem PySem.Spec PyProof.Rows L2 NdefX
section
open PySem.W
variable {prog : Program} {w : World} {M : Model} {A : Around} {E : Value → Shared → Prop} {h : Heap} {g : Array GenState} {d : Drawn} {t : Nat} {os : OsState}
theorem getAttr_super {so D x C f : Addr} {of : Obj} {l₀ l : List Value} {K : Frag} {name : Str} {b : Bool} {Q : Value → Shared → Prop}
    (hso : h.get? so = some { cls := .type "super", dict := none, data := .fields #[.ref D, .ref x, .ref C], slots := #[] }) (hno : Looks (model prog w) h (opaqueClassAbove (.ref C)) none)
    (hC : Looks (model prog w) h (mroOf (.ref C)) l₀) (hl : (l₀.dropWhile (· != .ref D)).drop 1 = l) (X : K.In h)
    (hf : alongIn K name l = some (some (.ref f))) (hfo : h.get? f = some of) (hfc : of.cls = .type "function") (hxC : x ≠ C) (hn : (name == ("__class__" : Str)) = false)
    (hq : Q (.ref h.objs.size) ⟨h.push { cls := .type "method", data := .fields #[.ref f, .ref x] }, g, d, t + 1, os⟩) :
    wpAny (model prog w) A (getAttr (.ref so) name b) Q E ⟨h, g, d, t, os⟩ := by
  have hlk := F.ks_slot_super_ga.lookup
  have hT : ∀ t', (⟨h, g, d, t', os⟩ : Shared).TypeIs (.ref so) "super" := fun _ => ⟨_, hso, rfl⟩
  unfold getAttr getAttrBy
  refine wpAny_bind (wpAny_mkText (wpAny_holding (wpAny_bind (wpAny_typeOf (hT _) (wpAny_bind (wpAny_of_eq hlk ?_))))))
  show wpAny _ _ (getAttrByItsOwn (.ref so) (.str name t) (.type "super") (.builtin "super.__getattribute__") true b) _ _ _
  unfold getAttrByItsOwn hookBefore callGetattribute boundAndCalled
  refine wpAny_bind (wpAny_of_eq (show (if onTheHeap (.type "super") then typeLookup (.type "super") "__getattr__" else pure none) = pure none from rfl) ?_)
  refine wpAny_bind (wpAny_attempt (wpAny_holding ?_))
  rw [show (b && onTheHeap (Value.builtin "super.__getattribute__")) = false by rw [show onTheHeap (Value.builtin "super.__getattribute__") = false from rfl, Bool.and_false]]
  show wpAny _ _ (bindSpecial (.builtin "super.__getattribute__") (.ref so) >>= _) _ _ _
  refine wpAny_bind (wpAny_of_eq (F.ks_slot_super_ga.bind _) ?_)
  refine wpAny_mono (Q := fun v s' => v = .ref h.objs.size ∧ s' = ⟨h.push { cls := .type "method", data := .fields #[.ref f, .ref x] }, g, d, t + 1, os⟩) (E := fun _ _ => False)
    (wpAny_call_entry F.ks_slot_super_ga (hT _) F.ks_entry_super_ga (ks_wpAny_super_ga hso hno hC hl X hf hfo hfc hxC hn ⟨_, rfl, rfl, rfl⟩) (F.ks_gaArgs_super _ _)) (fun v s' hv => ?_) fun _ _ z => z.elim
  obtain ⟨rfl, rfl⟩ := hv
  exact wpAny_pure hq
/-- o.m(*e), the object by super() -/
theorem starcallAt {c : Code} {s : Shared} {env : Env} {o e1 : Expr} {m : Str} {p apos pos : Pos} {Q : Value → Shared → Prop} (hst : starEach [.Starred e1 p] env = [(true, eval e1 env)])
    (h : _root_.PySem.wpAt M A c (attributeBase o m env (eval o env)) (fun ov s₁ => wpAny M A (getAttr ov m true) (fun f s₂ => wpAny M A (callWith pos f [] (backTo pos [(true, eval e1 env)]) []) Q E s₂) E s₁) E s) :
    _root_.PySem.wpAt M A c (eval (.Call (.Attribute o m apos) [.Starred e1 p] [] pos) env) Q E s := by
  have hke : backToKw pos (keywordEach [] env) = [] := rfl
  have hform : methodCallForm ([Expr.Starred e1 p].length + ([] : List Keyword).length) (backTo pos [(true, eval e1 env)]) [] = false := rfl
  have hpos : methodCallPos false o env apos pos = pure pos := rfl
  have hcal : ∀ ov, calleeOf false o env ov m = (getAttr ov m true >>= fun v => pure (v, [])) := fun _ => rfl
  rw [arm_eval_Call, hst, hke]
  refine _root_.PySem.wpAt_bind (ks_wpAt_mono h (fun ov s₁ h₁ => _root_.PySem.wpAt_of_wpAny ?_) fun _ _ x => x)
  refine wpAny_bind (wpAny_standAt ?_)
  unfold methodCall
  rw [hform, hpos, hcal]
  refine wpAny_bind (wpAny_holding (wpAny_bind (wpAny_mono h₁ (fun f s₂ h₂ => wpAny_pure ?_) fun _ _ x => x)))
  exact wpAny_bind (wpAny_pure h₂)
end
section
variable {P : Program} {w : World} {K : PySem.W.Frag} {mg : Str → Option Value} {base : Heap} {F : NF} {N : List Str} {f cc D CI f2 : Addr} {k : Nat} {sp2 : Sp} {doc pm ctv oc ccl cl' : Value} {od cdd cld : Option Addr} {osl ccs csl : Array (Option Value)} {vsC : Array Value} {file : Str} {tf : Tok} {cdD cdI : ClassData} {p0 p1 apos pw ps pos ep : Pos} {ar : Arg}
theorem fn_superStar (lk : K.lookup f = some ⟨oc, od, .func (F.fd doc pm ctv), osl⟩) (hcd : PySem.W.codeIn K (.ref F.c) F.qual = true) (S : NScope N ["self", "words"] ["__class__"] F.scope) (hcl : F.cl = [(Str.ofString "__class__", cc)])
    (hbody : F.body = [.Expr (.Call (.Attribute (.Call (.Name "super" p0) [] [] p1) "__init__" apos) [.Starred (.Name "words" pw) ps] [] pos) ep])
    (hb : ∀ (u : Value) (rest : List Value), bindArgs (F.fd doc pm ctv) ⟨u :: rest, []⟩ = (newTuple rest >>= fun t => pure [(Str.ofString "self", u), (Str.ofString "words", t)]))
    (har : (F.params.posonlyargs ++ F.params.args).head? = some ar) (hself : ar.arg = "self")
    (hcode : K.lookup F.c = some ⟨ccl, cdd, .fields vsC, ccs⟩) (hvs : vsC[2]? = some (.str file tf)) (hfile : ((P.main.file : Str) == file) = true) (htop : (P.main.scope.names.lookup ("super" : Str)).isSome = false)
    (hcell : K.lookup cc = some ⟨cl', cld, .cell (some (.ref D)), csl⟩) (hD : PySem.W.clsIn K D = some cdD) (hI : PySem.W.clsIn K CI = some cdI) (hsub : PySem.W.mroIn K CI (.ref D) = some true) (hsuper : mg "super" = none)
    (hks : F.scope.names.lookup ("super" : Str) = some .globalImplicit) (ho : PySem.W.nsIn K cStatics "thirdparty.any" = some none)
    (hm : PySem.W.alongIn K "__init__" ((cdI.mro.dropWhile (· != .ref D)).drop 1) = some (some (.ref f2))) (ht : PySem.W.typeIn K (.ref f2) = some (.type "function")) (hfn : PySem.W.fnIn K f2 = true)
    (F2 : FnR P w K mg base (L2.CX P w) k f2 sp2) :
    FnR P w K mg base (L2.CX P w) (k + 1) f (fun vs H Q E => ∃ (x dx : Addr) (fs : List (Str × V)) (rest : List V), vs = .ref x :: rest ∧ H x = some (.ins CI dx fs) ∧ rest.length ≤ sizeLine ∧ ∀ H', Same H H' → sp2 (.ref x :: rest) H' (fun _ H'' => Q .non H'') E) := by
  intro A outer s H us vs Q E hr e0 r hsp
  obtain ⟨x, dx, fs, rest, rfl, hx, few, want⟩ := hsp
  obtain ⟨u2, rfl, r2⟩ : ∃ u2, us = Value.ref x :: u2 ∧ Vals rest u2 := by
    cases r with
    | cons a b =>
      cases a
      exact ⟨_, rfl, b⟩
  have KX : K.In s.heap := e0.mod.kin.keeps fun b o e => (e0.bs b o e).1
  have hn : H s.heap.objs.size = Option.none := e0.hok.fresh (Nat.le_refl _)
  have hl2 : u2.length ≤ sizeLine := by rw [← r2.length]; exact few
  refine codeAny_call_function hr.depth (KX _ _ lk) rfl S.co S.gen rfl (PySem.W.codeRec_of KX hcd) ?_
  rw [hb]
  refine wpAny_bind (wpAny_newTuple (wpAny_pure ?_) hl2)
  have new : ObjOk P w (upd H s.heap.objs.size (.tup rest)) (s.heap.push ({ cls := .type "tuple", data := .seq u2.toArray } : Obj)) s.heap.objs.size (.tup rest) := ⟨few, u2, r2, ⟨_, Heap.get?_push_size _ rfl, rfl, _, rfl⟩⟩
  have un : Un (frs outer) [] H (upd H s.heap.objs.size (.tup rest)) s.heap ({ s with heap := s.heap.push ({ cls := .type "tuple", data := .seq u2.toArray } : Obj) } : Shared).heap := StX.un_laid (fs := frs outer) (s := s) (o := ({ cls := .type "tuple", data := .seq u2.toArray } : Obj)) (u := .tup rest) hn
  have e2 := StX.env0_laid e0 new
  have hx2 : ∀ e s', L2.CX P w outer (upd H s.heap.objs.size (.tup rest)) { s with heap := s.heap.push ({ cls := .type "tuple", data := .seq u2.toArray } : Obj) } E e s' → L2.CX P w outer H s E e s' := fun e s' => StX.cxUp outer s H _ _ E e s' un (fun b o q => Heap.get?_push_of_some _ q) rfl
  have sm : Same H (upd H s.heap.objs.size (.tup rest)) := Qh.Same.new hn
  have tupAt : (upd H s.heap.objs.size (.tup rest)) s.heap.objs.size = some (.tup rest) := upd_same
  have hxx := sm _ _ hx
  have hos : ({ s with heap := s.heap.push ({ cls := .type "tuple", data := .seq u2.toArray } : Obj) } : Shared).os = s.os := rfl
  generalize hs2 : ({ s with heap := s.heap.push ({ cls := .type "tuple", data := .seq u2.toArray } : Obj) } : Shared) = s2 at e2 hx2 un hos ⊢
  generalize upd H s.heap.objs.size (.tup rest) = H2 at e2 hx2 un sm tupAt hxx
  have lim : s2.heap.NoLimit := e0.mod.nolimit.keeps fun b o e => (e2.bs b o e).1
  have KX2 : K.In s2.heap := e0.mod.kin.keeps fun b o e => (e2.bs b o e).1
  refine wpAny_newFunctionEnv S.nocell (fun y hy => ?_) (fun h₁ hns hsb => ⟨lim.fresh _ hsb, ?_⟩) S.kind
  · refine S.par y.1 ?_
    rcases List.mem_cons.mp hy with rfl | hy
    · exact List.mem_cons_self
    · rw [List.mem_singleton.mp hy]
      exact List.mem_cons_of_mem _ List.mem_cons_self
  show codeAny _ _ (.func F.body (envF F f s2.heap.objs.size)) _ _
  have kp : ∀ b o, s2.heap.get? b = some o → h₁.get? b = some o := fun b o e => hsb.extBut b o (Nat.ne_of_lt (Heap.lt_size e)) (Heap.get?_push_of_some _ e)
  have cells : CellsAt F.cl ["__class__"] [some (.ref D)] s2.heap H2 := by
    rw [hcl]
    refine ⟨rfl, fun y c e => ?_, fun x y c e1 e2 => ?_, fun i y e => ?_⟩
    · have : cc = c := by
        unfold List.lookup at e
        split at e
        · exact Option.some.inj e
        · cases e
      subst this
      exact ⟨(e2.bs _ _ (e0.mod.kin _ _ hcell)).2, _, ⟨_, KX2 _ _ hcell, rfl⟩⟩
    · have one : ∀ {z : Str} {c : Addr}, List.lookup z [(Str.ofString "__class__", cc)] = some c → z = Str.ofString "__class__" := fun {z c} e => by
        unfold List.lookup at e
        split at e
        · rename_i h
          exact beq_iff_eq.mp h
        · cases e
      rw [one e1, one e2]
    · cases i with
      | zero =>
        cases e
        refine ⟨cc, by rfl, fun v hv => ?_⟩
        cases hv
        exact ⟨_, rfl, ⟨_, KX2 _ _ hcell, rfl⟩⟩
      | succ i => cases e
  have I : Inv (ncx (L2.CX P w) P w K mg base N F f A outer s2 H2 E) [] (startF N [.ref x, .ref s.heap.objs.size] [some (.ref D)]) H2 { s2 with heap := h₁, toks := s2.toks + 2 } := inv_startN (ps := ["self", "words"]) (us := [.ref x, .ref s.heap.objs.size]) S hr.hd e2 rfl (.cons rfl (.cons rfl .nil)) cells hns kp
  refine ks_codeAny_funcAt ?_
  refine PySem.ks_wpAt_mono (Q := fun fl s' => fl = Flow.next ∧ ∃ σ' H', Inv (ncx (L2.CX P w) P w K mg base N F f A outer s2 H2 E) [] σ' H' s' ∧ Q .non H') (E := (ncx (L2.CX P w) P w K mg base N F f A outer s2 H2 E).xe) ?_ (fun fl s' hs => ?_) (fun e s' hs => wpAny_mono hs (fun _ s'' z => hx2 e s'' z) fun e' s'' z => hx2 e' s'' z)
  case refine_2 =>
    obtain ⟨rfl, σ', H', J, q⟩ := hs
    exact ⟨.non, H', J.os.trans hos, J.bare, un.trans J.base, J.hok, rfl, q⟩
  rw [hbody]
  obtain ⟨oD, hD1, hD2⟩ : ∃ oD, h₁.get? D = some oD ∧ oD.data = .cls cdD := by
    unfold PySem.W.clsIn at hD
    split at hD
    · rename_i c d cd' sl ho
      cases hD
      exact ⟨_, kp _ _ (KX2 _ _ ho), rfl⟩
    · cases hD
  have hkc : F.scope.names.lookup ("__class__" : Str) = some .free := S.frk _ List.mem_cons_self
  have hka : F.scope.names.lookup ("self" : Str) = some .local := S.par _ List.mem_cons_self
  have KI : K.In h₁ := I.kIn
  obtain ⟨mb, hm1, hm2⟩ := I.mod.blt
  obtain ⟨mA, O, _, _, _, _⟩ := ins_get I.hok hxx
  obtain ⟨odx, J, hlx⟩ := O.look
  refine PySem.ks_wpAt_execs_cons (PySem.ks_wpAt_Expr_any (starcallAt rfl ?_) (by unfold interactive; rw [show (envF F f s2.heap.objs.size).scope.kind = .function from S.kind]; rfl) rfl)
  refine PySem.ks_wpAt_super_base hks hkc rfl rfl (KI _ _ lk) rfl har rfl (KI _ _ hcode) rfl hvs hfile htop ?_
  refine PySem.W.ks_loadName_global S.kind hks (PySem.Calls.loadGlobal_builtin (I.mod.glob.keeps I.bk) hsuper (hm1.keeps I.bk) ((hm2 _ (by decide)).trans (by decide +kernel)) ⟨rfl, ?_⟩)
  refine wpAny_loadName_free S.kind hkc (by rw [show (envF F f s2.heap.objs.size).cells = F.cl from rfl, hcl]; rfl) ⟨_, KI _ _ hcell, rfl⟩ ?_
  rw [hself]
  refine wpAny_loadName_local S.kind hka hns (v := .ref x) rfl ?_
  refine PySem.ks_wpAny_isType_cls hD1 hD2 ⟨rfl, ?_⟩
  refine PySem.ks_wpAny_call_super hD1 hD2 J.at_ J.cls (fun c e => ?_) (PySem.W.looks_mroIn KI hsub) (fun h' e kk => ?_)
  · have := J.no
    unfold PySem.W.notCls at this
    rw [e] at this
    exact Bool.noConfusion this
  have I2 : Inv (ncx (L2.CX P w) P w K mg base N F f A outer s2 H2 E) [] (startF N [.ref x, .ref s.heap.objs.size] [some (.ref D)]) H2 { s2 with heap := h', toks := s2.toks + 2 } := I.kept (t' := s2.toks + 2) kk
  have K2 : K.In h' := I2.kIn
  obtain ⟨of, hof, hofc⟩ : ∃ of, h'.get? f2 = some of ∧ of.cls = .type "function" := by
    have ht' : (K.lookup f2).map (·.cls) = some (.type "function") := ht
    cases z : K.lookup f2 with
    | none => rw [z] at ht'; cases ht'
    | some of => rw [z] at ht'; exact ⟨of, K2 _ _ z, Option.some.inj ht'⟩
  refine getAttr_super e (PySem.W.looks_opaque K2 ho) (l₀ := cdI.mro) ?_ rfl K2 hm hof hofc (PySem.W.ks_ne KI J hI) (by decide +kernel) ?_
  · exact fun A Q E s k q => wpAny_bind ((PySem.W.looks_clsIn K2 hI) A _ E s k (wpAny_pure q))
  have mAt : (h'.push (PySem.W.methodObj (.ref f2) (.ref x))).get? h'.objs.size = some (PySem.W.methodObj (.ref f2) (.ref x)) := Heap.get?_push_size h' rfl
  have hq1 : H2 h'.objs.size = none := I2.hok.fresh (Nat.le_refl _)
  have I3 := I2.laid (t' := s2.toks + 2 + 1) (h' := h'.push (PySem.W.methodObj (.ref f2) (.ref x))) (a := h'.objs.size) (o := .met f2 x) (fun b u z => Heap.get?_push_of_some _ z) (Nat.le_refl _) mAt
  have hN : N[1]? = some (Str.ofString "words") := by
    have e := S.pre
    have e3 : (N.take 3)[1]? = some (Str.ofString "words") := by
      rw [show N.take 3 = _ from e]
      rfl
    rw [List.getElem?_take_of_lt (by decide)] at e3
    exact e3
  have hw : F.scope.names.lookup ("words" : Str) = some .local := S.par _ (List.mem_cons_of_mem _ List.mem_cons_self)
  refine PySem.W.ks_call (P := PySem.W.MethP K h'.objs.size f2 (.ref x)) rfl (PySem.W.keeps_M hfn) (PySem.W.ks_lone ?_)
  refine thn ((pe_var (X := ncx (L2.CX P w) P w K mg base N F f A outer s2 H2 E) (i := 1) (x := "words") (pos := pw) hN (.inl hw) (by decide) (by decide)).run [] _ _ _ (fun v H => v = .ref s.heap.objs.size ∧ H = upd H2 h'.objs.size (.met f2 x)) I3 ⟨.ref s.heap.objs.size, rfl, rfl, rfl⟩) fun u s4 ⟨v, H4, I4, r1, ev, eH⟩ => ?_
  subst ev eH
  obtain rfl : u = Value.ref s.heap.objs.size := r1
  have s23 : Same H2 (upd H2 h'.objs.size (.met f2 x)) := Qh.Same.new hq1
  refine star_tup I4 (SqT.of (s23 _ _ tupAt)) fun us s5 I5 rv => ⟨met_P I5 upd_same, ?_⟩
  have hxp : Passes (L2.CX P w) (ncx (L2.CX P w) P w K mg base N F f A outer s2 H2 E) E := passes_call (takes_of rfl rfl rfl rfl) fun _ _ _ _ h => h
  refine wpAny_mono (wpAny_call (PySem.W.method_call (met_P I5 upd_same).1 (run_fnR (X := ncx (L2.CX P w) P w K mg base N F f A outer s2 H2 E) (us := Value.ref x :: us) (vs := V.ref x :: rest) F2 (hr.deeper _) hxp I5 (.cons rfl rv) (want _ (sm.trans s23))))) (fun u s6 h6 => ?_) fun _ _ z => z
  obtain ⟨v, H6, I6, r6, q6⟩ := h6
  exact PySem.wpAt_of_wpAny (wpAny_execs_nil ⟨rfl, _, _, I6, q6⟩)
end
end Qu
set_option Elab.async false
set_option linter.all false
set_option maxRecDepth 100000
set_option maxHeartbeats 8000000
namespace K07.Sp
open PySem PySem.Spec PyProof.Rows L2 TL Qh Qi Ql ClX
abbrev sInit : Stmt := inClass (top 28) 1
abbrev sResS : Stmt := inClass (top 28) 2
abbrev sResD : Stmt := inClass (top 29) 1
/-- the reason and the index that are due; none if the step can be made -/
def dueX (xs : List V) : Option (Str × Option Nat) := if (decide ((1 : Int) ≤ (xs.length : Int)) && decide ((xs.length : Int) ≤ 20)) = true then
  (match xs.findIdx? (fun v => !wordV v) with
    | some i => some (Str.ofString "word", some i)
    | none => none) else some (Str.ofString "words", none)
/-- Stop, the class at C -/
structure StopC (K : PySem.W.Frag) (mg : Str → Option Value) (C : Addr) : Prop where
  g : mg "Stop" = some (.ref C)
  most : ∃ mc u, CRead K C mc ∧ CVal K C mc "MOST" (.int 20) u
/-- a class whose instances it makes -/
structure InsW (K : PySem.W.Frag) (C : Addr) : Prop where
  cl : Cls K C
  n1 : NoAttr K C "words"
def spInit (K : PySem.W.Frag) (CI CE : Addr) : Sp := fun vs G Q E => ∃ (x dx p : Addr) (xs : List V), vs = [.ref x, .ref p] ∧ G x = some (.ins CI dx []) ∧ G p = some (.tup xs) ∧ (∀ v ∈ xs, ∀ G', Same G G' → Known K G' v) ∧ xs.length ≤ 1000 ∧
  (∀ reason i, dueX xs = some (reason, i) → ∀ d G', ErrStep G G' d reason (ixV i) → E (.ref CE) (some d) G') ∧
  (∀ ts : List Str, dueX xs = none → xs = ts.map V.str → ∀ (D1 : Addr) (ss : List Str) G', Kp x G G' → G' x = some (.ins CI dx [("words", .ref D1)]) → G' D1 = some (.tup (ss.map V.str)) → Qs.Asc ts ss → Q .non G')
section
variable {P : Program} {w : World} {K : PySem.W.Frag} {mg : Str → Option Value} {base : Heap}
abbrev initN : List Str := ["self", "words", "index", "word"]
theorem scInit : FnScope initN ["self", "words"] (defScope sInit) := ⟨rfl, rfl, rfl, by decide +kernel, rfl, by decide +kernel, by decide +kernel⟩
theorem body_init {C CI CE : Addr} (B : Blt mg) (T : StopC K mg C) (W : InsW K CI) (TE : ErrN P w K mg base "InvalidStep" ["reason", "index"] CE) (F_is_word : Ok P w K mg base "is_word" (defArgs sIsWord) ["value"] 2 (spIsWord K)) (F_asc : Ok P w K mg base "ascending" (defArgs sAsc) ["values"] 1 (Qi.spAsc K))
    {f : Addr} (cdv : Value) (A : Around) (out : List Env) (t : Shared) (G : Hp) (vs : List V) (Q : VK) (E : XK) (hr : Room 3 (A.deeper (envOfC "Stop.__init__" (defScope sInit) t.heap.objs.size f cdv))) (h : spInit K CI CE vs G Q E) :
    ∃ rd, PSs (cxOf (L2.CX P w) P w K mg base initN "Stop.__init__" (defScope sInit) f cdv A out t G E) (defBody sInit) rd ∧ rd { nx := fun _ G' => Q .non G', rt := Q } (start initN vs) G := by
  obtain ⟨x, dx, p, xs, rfl, hx, hp, hk, hn, kE, kD⟩ := h
  refine ⟨_, (pss_cons (ps_if (pt_not (pt_chain op_le op_le pe_int (pe_callB call_len (by rfl) B.n_len bt_len (pa_cons (pv 1) pa_nil)) (pe_cval (pe_glob (v := .ref C) rfl T.g rfl)))) (pss_one (ps_raise rfl (takes_of rfl rfl rfl rfl) (pmk_errN TE (hr.mono (by decide)) (pa_cons pe_str (pa_cons pe_non pa_nil))))) pss_nil)
    (pss_cons (ps_for (passes_of rfl) rfl (pi_enumT (by rfl) B.n_enumerate (pa_cons (pv 1) pa_nil)) (pg_tup rfl (pgs_cons (pg_name (i := 2) scInit.nd rfl (by first | exact Or.inl rfl | exact Or.inr rfl)) (pgs_cons (pg_name (i := 3) scInit.nd rfl (by first | exact Or.inl rfl | exact Or.inr rfl)) pgs_nil)))
      (pss_one (ps_if (pt_not (pt_val (pe_own F_is_word (hr.mono (by decide)) takes0 (pa_cons (pv 3) pa_nil)))) (pss_one (ps_raise rfl (takes_of rfl rfl rfl rfl) (pmk_errN TE (hr.mono (by decide)) (pa_cons pe_str (pa_cons (pv 2) pa_nil))))) pss_nil)))
    (pss_one (ps_fld (pv 0) (pe_own F_asc (hr.mono (by decide)) takes0 (pa_cons (pv 1) pa_nil)) rfl)))), ?_⟩
  refine ⟨_, rfl, .ref p, _, rfl, .inr ⟨_, SqT.of hp, rfl⟩, _, _, rfl, rfl, _, rfl, ?_⟩
  have raise : ∀ (reason : Str) (i : V) (G' : Hp), (∀ d G2, ErrStep G' G2 d reason i → E (.ref CE) (some d) G2) → _ := fun reason i G' kx => errN_end (fields := ["reason", "index"]) (C := CE) (ws := [.str reason, i]) (G1 := G') (Q := fun cls d G' => E cls d G') rfl (by show 2 ≤ 1000; decide) fun d hd => kx d _ ⟨hd, Qh.Same.new hd, upd_same⟩
  have words : (decide ((1 : Int) ≤ (xs.length : Int)) && decide ((xs.length : Int) ≤ 20)) = false → dueX xs = some (Str.ofString "words", none) := fun h => by
    unfold dueX
    rw [h]
    rfl
  refine ite2 (fun h1 => ?_) (fun h1 => ?_)
  case refine_2 =>
    refine ⟨_, rfl, iteT ?_⟩
    exact raise "words" .non G (kE _ none (words (by rw [Bool.eq_false_iff.mpr h1, Bool.false_and])))
  obtain ⟨mc, u8, cr, cv⟩ := T.most
  refine ⟨C, mc, .int 20, u8, rfl, cr, cv, ?_⟩
  refine ⟨_, _, rfl, rfl, _, rfl, ?_⟩
  refine ite2 (fun h2 => ?_) (fun h2 => ?_)
  · have h2 : decide ((xs.length : Int) ≤ 20) = false := by simpa using h2
    exact raise "words" .non G (kE _ none (words (by rw [h2, Bool.and_false])))
  have h2 : decide ((xs.length : Int) ≤ 20) = true := by simpa using h2
  have h12 : (decide ((1 : Int) ≤ (xs.length : Int)) && decide ((xs.length : Int) ≤ 20)) = true := by rw [h1, h2]; rfl
  have hn8 : xs.length ≤ 20 := by
    have := of_decide_eq_true h2
    omega
  refine ⟨_, rfl, p, _, rfl, SqT.of hp, for_it walk_enumT (fun i σ' G' => ∃ o3 o4, σ' = [some (.ref x), some (.ref p), o3, o4] ∧ Same G G' ∧ ∀ j v, j < i → xs[j]? = some v → wordV v = true)
    ⟨none, none, rfl, Same.refl G, fun j v hj _ => absurd hj (Nat.not_lt_zero j)⟩ (fun i σ' G' _ ⟨_, _, _, sm, _⟩ => SqT.of (sm _ _ hp)) ?_ ?_⟩
  · rintro i y σ1 G1 G2 hi ⟨o3, o4, rfl, sm, hw⟩ ⟨Tp, a, b, rfl, hT, rfl, ea, eb⟩
    obtain rfl : a = V.int (i : Int) := (Option.some.inj ea).symm
    have eb : xs[i]? = some b := eb
    have smT : Same G (L2.upd G1 Tp (.tup [V.int (i : Int), b])) := Qh.Same.fresh sm (sm.free hT)
    refine ⟨Tp, _, rfl, SqT.of upd_same, rfl, _, _, rfl, _, _, rfl, rfl, ?_⟩
    refine ⟨_, rfl, b, rfl, hk b (List.mem_of_getElem? eb) _ smT, fun G3 sm3 => ⟨_, rfl, ?_⟩⟩
    have sm' : Same G G3 := smT.trans sm3
    cases e : wordV b with
    | true =>
      refine ⟨_, _, rfl, sm', fun j v hj hjb => ?_⟩
      by_cases hji : j = i
      · subst hji
        rw [eb] at hjb
        cases hjb
        exact e
      · exact hw j v (by omega) hjb
    | false =>
      refine iteT ⟨_, rfl, raise "word" (.int (i : Int)) G3 fun d G4 es => kE _ (some i) ?_ d G4 ⟨sm'.free es.1, sm'.trans es.2.1, es.2.2⟩⟩
      have hf : xs.findIdx? (fun v => !wordV v) = some i := findIdx_some eb (by rw [e]; rfl) fun j v hj hv => by rw [hw j v hj hv]; rfl
      unfold dueX
      rw [if_pos h12, hf]
  · rintro σ1 G1 ⟨o3, o4, rfl, sm, hw⟩
    have hf : xs.findIdx? (fun v => !wordV v) = none := findIdx_none fun j v hv => by
      rw [hw j v (List.getElem?_eq_some_iff.mp hv).1 hv]
      rfl
    have due : dueX xs = none := by
      unfold dueX
      rw [if_pos h12, hf]
    obtain ⟨ts, hts⟩ := all_txt (xs := xs) fun v hv => by
      obtain ⟨j, hj⟩ := List.getElem?_of_mem hv
      exact txt_of (hw j v (List.getElem?_eq_some_iff.mp hj).1 hj)
    have hx2 : G1 x = some (.ins CI dx []) := sm _ _ hx
    have hp2 : G1 p = some (.tup (ts.map V.str)) := by rw [← hts]; exact sm _ _ hp
    have tl : ts.length < 64 := by
      rw [hts, List.length_map] at hn8
      omega
    refine ⟨_, rfl, p, ts, rfl, .inr (SqT.of hp2), tl, fun ss D1 G3 asc n3 s3 l3 => ?_⟩
    have hx3 : G3 x = some (.ins CI dx []) := s3 _ _ hx2
    refine ⟨_, rfl, x, CI, dx, [], rfl, hx3, W.cl, W.n1, by show 0 < 1000; decide, ?_⟩
    exact kD ts due hts D1 ss _ ((Kp.same (sm.trans s3)).trans Kp.self) (by rw [upd_same]; rfl) (by rw [upd_ne (tup_ne_ins hx3 D1 _ l3)]; exact l3) asc
/-- what a call of __init__ asks -/
def spInitS (K : PySem.W.Frag) (CI CE : Addr) : Sp := fun vs H Q E => ∃ ws rest, vs = ws ++ rest ∧ ws.length = ([("self" : Str)] : List Str).length ∧ rest.length ≤ sizeLine ∧ ∀ p, H p = Option.none → spInit K CI CE (ws ++ [V.ref p]) (L2.upd H p (.tup rest)) Q E
theorem ok_init {C CI CE f : Addr} {fd : FuncData} (F : Fun K "__init__" "Stop.__init__" sInit f fd) (B : Blt mg) (T : StopC K mg C) (W : InsW K CI) (TE : ErrN P w K mg base "InvalidStep" ["reason", "index"] CE) (F_is_word : Ok P w K mg base "is_word" (defArgs sIsWord) ["value"] 2 (spIsWord K)) (F_asc : Ok P w K mg base "ascending" (defArgs sAsc) ["values"] 1 (Qi.spAsc K)) :
    FnR P w K mg base (L2.CX P w) 4 f (spInitS K CI CE) := by
  obtain ⟨oc, od, kV, doc, pm, an, cdv, ct, osl, rfl, lk, hcd⟩ := F.ex
  exact StX.fn_star (ps := ["self"]) (pv := "words") lk hcd scInit StX.cxUp (fun us rest hl => match us, rest, hl with
    | [_], [], _ => rfl
    | [_], _ :: _, _ => rfl) fun A out t G vs Q E hr h => body_init B T W TE F_is_word F_asc cdv A out t G vs Q E hr h
end
/-- an instance with these words -/
def StepAt (C : Addr) (G : Hp) (a : Addr) (ss : List Str) : Prop := ∃ dx D1, G a = some (.ins C dx [("words", .ref D1)]) ∧ G D1 = some (.tup (ss.map V.str))
theorem StepAt.same {C : Addr} {G G' : Hp} {a : Addr} {ss : List Str} (h : StepAt C G a ss) (s : Same G G') : StepAt C G' a ss := by
  obtain ⟨dx, D1, h1, h2⟩ := h
  exact ⟨dx, D1, s _ _ h1, s _ _ h2⟩
/-- what is wished of C(*xs), C Stop or Drop -/
structure Made (K : PySem.W.Frag) (CI CE : Addr) (xs : List V) (H : Hp) (Q : VK) (E : XK) : Prop where
  hk : ∀ v ∈ xs, ∀ G', Same H G' → Known K G' v
  hn : xs.length ≤ 1000
  kE : ∀ reason i, dueX xs = some (reason, i) → ∀ d G', ErrStep H G' d reason (ixV i) → E (.ref CE) (some d) G'
  kD : ∀ ts : List Str, dueX xs = none → xs = ts.map V.str → ∀ (x : Addr) (ss : List Str) G', H x = none → Same H G' → StepAt CI G' x ss → Qs.Asc ts ss → Q (.ref x) G'
theorem Made.same {K : PySem.W.Frag} {CI CE : Addr} {xs : List V} {G H : Hp} {Q : VK} {E : XK} (m : Made K CI CE xs G Q E) (s : Same G H) : Made K CI CE xs H Q E :=
  ⟨fun v hv G' k => m.hk v hv G' (s.trans k), m.hn, fun r i h d G' e => m.kE r i h d G' ⟨s.free e.1, s.trans e.2.1, e.2.2⟩, fun ts h e x ss G' n k => m.kD ts h e x ss G' (s.free n) (s.trans k)⟩
theorem Made.at {K : PySem.W.Frag} {CI CE : Addr} {xs : List V} {H H' : Hp} {Q Q' : VK} {E : XK} (m : Made K CI CE xs H Q E) {x dx : Addr} (hx : H x = none) (s : Same H H') (hi : H' x = some (.ins CI dx [])) (hQ : ∀ G', Q (.ref x) G' → Q' .non G') :
    spInitS K CI CE (V.ref x :: xs) H' Q' E := by
  refine ⟨[.ref x], xs, rfl, rfl, big_line (by have := m.hn; omega), fun p hp => ?_⟩
  have px : p ≠ x := fun e => by
    rw [e, hi] at hp
    cases hp
  have s2 : Same H (L2.upd H' p (.tup xs)) := s.trans (Qh.Same.new hp)
  refine ⟨x, dx, p, xs, rfl, by rw [upd_ne px.symm]; exact hi, upd_same, fun v hv G' k => m.hk v hv G' (s2.trans k), m.hn, fun r i h d G' e => m.kE r i h d G' ⟨s2.free e.1, s2.trans e.2.1, e.2.2⟩, ?_⟩
  intro ts h e D1 ss G' kp ix t1 a1
  exact hQ G' (m.kD ts h e x ss G' hx (fun c o z => kp c o (ne_of_none z hx) (s2 _ _ z)) ⟨dx, D1, ix, t1⟩ a1)
theorem Made.want {K : PySem.W.Frag} {CI CE : Addr} {xs : List V} {H : Hp} {Q : VK} {E : XK} (m : Made K CI CE xs H Q E) (x dx : Addr) (hx : H x = none) (hdx : H dx = none) (ne : dx ≠ x) :
    spInitS K CI CE (V.ref x :: xs) (L2.upd (L2.upd H dx (.own x)) x (.ins CI dx [])) (fun v H2 => v = .non ∧ Q (.ref x) H2) E :=
  m.at hx (fun b o e => by rw [upd_ne (ne_of_none e hx), upd_ne (ne_of_none e hdx)]; exact e) upd_same fun G' q => ⟨rfl, q⟩
/-- what a call of Drop's __init__ asks -/
def spInitDrop (K : PySem.W.Frag) (CI CE : Addr) : Sp := fun vs H Q E => ∃ (x dx : Addr) (fs : List (Str × V)) (rest : List V), vs = .ref x :: rest ∧ H x = some (.ins CI dx fs) ∧ rest.length ≤ sizeLine ∧ ∀ H', Same H H' → spInitS K CI CE (.ref x :: rest) H' (fun _ H'' => Q .non H'') E
theorem Made.wantDrop {K : PySem.W.Frag} {CI CE : Addr} {xs : List V} {H : Hp} {Q : VK} {E : XK} (m : Made K CI CE xs H Q E) (x dx : Addr) (hx : H x = none) (hdx : H dx = none) (ne : dx ≠ x) :
    spInitDrop K CI CE (V.ref x :: xs) (L2.upd (L2.upd H dx (.own x)) x (.ins CI dx [])) (fun v H2 => v = .non ∧ Q (.ref x) H2) E := by
  have s1 : Same H (L2.upd (L2.upd H dx (.own x)) x (.ins CI dx [])) := fun b o e => by rw [upd_ne (ne_of_none e hx), upd_ne (ne_of_none e hdx)]; exact e
  exact ⟨x, dx, [], xs, rfl, upd_same, big_line (by have := m.hn; omega), fun H' s => m.at hx (s1.trans s) (s _ _ upd_same) fun G' q => ⟨rfl, q⟩⟩
def hole : Str := Str.ofString "*"
/-- what comes out of a word or of none: w where the word is one of ss -/
def resV (ss : List Str) (w v : V) : V := if inV v (ss.map V.str) then w else v
def spResult (C : Addr) (w : V) : Sp := fun vs G Q _ => ∃ (a : Addr) (ss : List Str) (v : V), vs = [.ref a, v] ∧ StepAt C G a ss ∧ flatV v = true ∧ Q (resV ss w v) G
theorem flat_strs (l : List Str) : (l.map V.str).all flatV = true := by
  rw [List.all_map]
  exact List.all_eq_true.mpr fun _ _ => rfl
section
variable {P : Program} {w : World} {K : PySem.W.Frag} {mg : Str → Option Value} {base : Heap}
theorem scResS : FnScope ["self", "value"] ["self", "value"] (defScope sResS) := ⟨rfl, rfl, rfl, by decide +kernel, rfl, by decide +kernel, by decide +kernel⟩
theorem scResD : FnScope ["self", "value"] ["self", "value"] (defScope sResD) := ⟨rfl, rfl, rfl, by decide +kernel, rfl, by decide +kernel, by decide +kernel⟩
theorem ok_resS {C f : Addr} {fd : FuncData} (F : Fun K "result" "Stop.result" sResS f fd) (W : InsW K C) (hH : ∃ t, mg "HOLE" = some (.str hole t)) : FnOk P w K mg base (L2.CX P w) 1 f fd ["self", "value"] (spResult C (.str hole)) := by
  obtain ⟨tH, hH⟩ := hH
  refine F.okX scResS (fun vs G Q E h => ?_) (fun cdv A out t G vs Q E hr h => ?_)
  · obtain ⟨a, ss, v, rfl, _⟩ := h
    rfl
  · obtain ⟨a, ss, v, rfl, ⟨dx, D1, h1, h2⟩, fv, k⟩ := h
    refine ⟨_, pss_one (ps_ret (pe_ifExp (pt_cmpR op_in_seq (pv 1) (pe_fld (pv 0) rfl) (by rfl)) (pe_glob (v := .str hole) rfl hH ⟨_, rfl⟩) (pv 1))), ?_⟩
    refine ⟨_, rfl, _, rfl, a, C, dx, _, _, rfl, h1, W.cl, W.n1, rfl, D1, _, rfl, .inr (SqT.of h2), fv, flat_strs ss, _, rfl, ?_⟩
    unfold resV at k
    refine ite2 (fun h => ?_) (fun h => ?_)
    · have h : inV v (ss.map V.str) = true := h
      rw [if_pos h] at k
      exact k
    · have h : ¬ inV v (ss.map V.str) = true := h
      rw [if_neg h] at k
      exact ⟨_, rfl, k⟩
theorem ok_resD {C f : Addr} {fd : FuncData} (F : Fun K "result" "Drop.result" sResD f fd) (W : InsW K C) : FnOk P w K mg base (L2.CX P w) 1 f fd ["self", "value"] (spResult C .non) := by
  refine F.okX scResD (fun vs G Q E h => ?_) (fun cdv A out t G vs Q E hr h => ?_)
  · obtain ⟨a, ss, v, rfl, _⟩ := h
    rfl
  · obtain ⟨a, ss, v, rfl, ⟨dx, D1, h1, h2⟩, fv, k⟩ := h
    refine ⟨_, pss_one (ps_ret (pe_ifExp (pt_cmpR op_in_seq (pv 1) (pe_fld (pv 0) rfl) (by rfl)) pe_non (pv 1))), ?_⟩
    refine ⟨_, rfl, _, rfl, a, C, dx, _, _, rfl, h1, W.cl, W.n1, rfl, D1, _, rfl, .inr (SqT.of h2), fv, flat_strs ss, _, rfl, ?_⟩
    unfold resV at k
    refine ite2 (fun h => ?_) (fun h => ?_)
    · have h : inV v (ss.map V.str) = true := h
      rw [if_pos h] at k
      exact k
    · have h : ¬ inV v (ss.map V.str) = true := h
      rw [if_neg h] at k
      exact ⟨_, rfl, k⟩
end
end K07.Sp
set_option Elab.async false
set_option linter.all false
set_option maxRecDepth 100000
set_option maxHeartbeats 4000000
/-! def f(a, .., *v, k = d): called with values alone. -/
namespace Qi
open PySem PySem.Spec PyProof.Rows L2 Qh StX
section
variable {CX : CXT} {P : Program} {w : World} {K : PySem.W.Frag} {mg : Str → Option Value} {base : Heap} {k : Nat} {f Dk : Addr} {name qual : Str} {params : Arguments} {body : List Stmt} {scope : Scope} {dV doc pm cdv ct oc : Value} {an od : Option Addr}
  {osl : Array (Option Value)} {N ps : List Str} {sp : Sp}
end
end Qi
set_option Elab.async false
set_option linter.all false
set_option maxRecDepth 100000
set_option maxHeartbeats 4000000
/-! {x for .. in .. if ..} of members of any sort whose set.add has a rule; for ints. -/
namespace Qsc
open PySem PySem.Spec PyProof.Rows L2
/-- the new, empty set -/
abbrev bare (w : World) : Obj := { cls := .type "set", dict := none, data := .set #[] 0 (.fresh 0 0 (!w.params.followText "set-order")) }
def tSet (O : Addr → HO) (r : V → List V → Hp → VK → Prop) (wi : TI) (g : TG) (tt : TT) (te : TE) (own : List Nat) : TE := fun z U R =>
  wi z U fun J U1 => ∀ D, U1 D = none → ∃ W : Nat → Nat → Hp → Prop, (∃ m, W 0 m (upd U1 D (O D))) ∧ ∀ i m U2, W i m U2 →
    (J.stop i U2 ∧ R (.ref D) U2) ∨
    (J.go i U2 ∧ ∃ Nx : Hp → Prop, (∀ U3, Nx U3 → ∃ m', m' < m ∧ W (i + 1) m' U3) ∧
      ∀ x U3, J.yld i U2 x U3 → g x (wipe z own) U3 fun z2 U4 => wipe z2 own = wipe z own ∧
        tt z2 U4 fun b U5 => if b = true then te z2 U5 fun y U6 => r (.ref D) [y] U6 fun _ U7 => Nx U7 else Nx U5)
section
variable {X : Cx} {elt tg iter : Expr} {ifs : List Expr} {sc : Scope} {own : List (PySem.Str × Nat)} {p0 p1 : Pos} {wi : TI} {g : TG} {tt : TT} {te : TE} {O : Addr → HO} {r : V → List V → Hp → VK → Prop}
theorem set_run {ps : List (Addr × Obj)} {sh : Shared} {z : L2.St} {U : Hp} {R : VK} {use : Option (Value → Sem Unit)} {Qf : Value → Shared → Prop}
    (calm : X.calm = true) (nd : X.N.Nodup) (I : Inv X ps z U sh) (hi : PI X tg iter wi) (ok : BlkOk X.N X.env.scope sc own)
    (hO : ∀ (P : Program) (H : Hp) (h : Heap), ObjOk P X.w H (h.push (bare X.w)) h.objs.size (O h.objs.size)) (hr : ∀ X' : Cx, X'.w = X.w → MtR X' "set.add" r)
    (hg : ∀ (a : Shared) (b : Hp) (c : Addr) (d : List (PySem.Str × Addr)) (e : List Addr), PG (X.blk a b sc (compEnvC sc d c X.env) e) tg g)
    (ht : ∀ (a : Shared) (b : Hp) (c : Addr) (d : List (PySem.Str × Addr)) (e : List Addr), PTs (X.blk a b sc (compEnvC sc d c X.env) e) ifs tt)
    (he : ∀ (a : Shared) (b : Hp) (c : Addr) (d : List (PySem.Str × Addr)) (e : List Addr), PE (X.blk a b sc (compEnvC sc d c X.env) e) elt te)
    (fold : ∀ x, foldedSetIterable iter X.env x = pure x)
    (h : tSet O r wi g tt te (own.map (·.2)) z U R)
    (out : ∀ D C s2 m U2, Inv X ps z U2 s2 → R (.ref D) U2 → s2.heap.Ns C m → FpOk X ps U2 C → compPost (model X.prog X.w) X.A X.xe use Qf (.ref D) C (.ok .next) s2) :
    wpAny (model X.prog X.w) X.A (comprehension (.SetComp elt [⟨tg, iter, ifs, 0⟩] sc p0) sc X.env p1 (newSet (.type "set")) false (eval iter X.env) use) Qf X.xe sh := by
  have free : ∀ y ∈ sc.names, y.2 = .free → ∃ c, X.env.cells.lookup y.1 = some c := fun y hy e =>
    (ok.free y hy e).elim (fun k => I.ok.has _ (.inl k)) fun k => I.ok.has _ (.inr k)
  refine wpAny_comprehension_free (use := use) rfl fold (closure_ok free) ok.kind (fun y hy e => by rw [ok.uniq y hy, e]) ?_
  refine thn (hi.run ps sh z U _ I h) fun xv s1 hx => thn hx ?_
  rintro itv s2 ⟨it, fp, tn, J, H2, rfl, I2, T, st2, f2, q⟩
  refine PpSet.newSet_ok (newEnv_comp ?_)
  generalize eD : s2.heap.objs.size = D
  obtain ⟨W, ⟨m0, w0⟩, turn⟩ := q D (I2.hok.fresh (Nat.le_of_eq eD))
  generalize e3 : ({ s2 with heap := s2.heap.push (bare X.w) } : Shared) = s3
  have hp3 : s3.heap = s2.heap.push (bare X.w) := by rw [← e3]
  have I3 : Inv X ps z (upd H2 D (O D)) s3 := by
    rw [← e3]
    refine I2.laid (t' := s2.toks) (fun b o e => Heap.get?_push_of_some _ e) (Nat.le_of_eq eD) ?_
    rw [← eD]
    exact hO _ _ _
  have f3 : ∀ b ∈ fp, FpOk X ps (upd H2 D (O D)) b ∧ b < s3.heap.objs.size := fun b hb => by
    obtain ⟨o, eo, _⟩ := T.obj _ _ st2 b hb
    have lt : b < s2.heap.objs.size := Heap.lt_size eo
    obtain ⟨k1, k2⟩ := f2 b hb
    refine ⟨⟨?_, k2⟩, ?_⟩
    · rw [upd_ne (by rw [← eD]; exact Nat.ne_of_lt lt)]
      exact k1
    · rw [hp3, Heap.size_push]
      exact Nat.lt_succ_of_lt lt
  have st3 : tn 0 s3.heap := T.keep _ _ _ st2 fun b _ o e => by
    rw [hp3]
    exact Heap.get?_push_of_some _ e
  generalize hH3 : upd H2 D (O D) = H3 at I3 f3 w0
  have I4 := block_start I3 ok nd f3
  generalize hcl : cellsFrom (s3.heap.objs.size + 1) sc.names (cloFrom X.env.cells sc.names []) = cl at I4
  have pg := hg s3 H3 s3.heap.objs.size cl fp
  have pt := ht s3 H3 s3.heap.objs.size cl fp
  have pe := he s3 H3 s3.heap.objs.size cl fp
  have start : ∀ ce, ce = compEnvC sc cl s3.heap.objs.size X.env → codeAny (model X.prog X.w) X.A (.compStart (.SetComp elt [⟨tg, iter, ifs, 0⟩] sc p0) 0 (.ref it) (.ref D) ce) (compPost (model X.prog X.w) X.A X.xe use Qf (.ref D) s3.heap.objs.size) { s3 with heap := pushCells (s3.heap.push { cls := .type "dict", data := .dict #[] }) sc.names } := fun ce hce => by
    rw [← hce] at I4 pg pt pe
    have cL : ce.locals = s3.heap.objs.size := by rw [hce]; rfl
    generalize e4 : ({ s3 with heap := pushCells (s3.heap.push { cls := .type "dict", data := .dict #[] }) sc.names } : Shared) = s4 at I4 ⊢
    have st4 : tn 0 s4.heap := T.keep _ _ _ st3 fun b _ o e => by
      rw [← e4]
      exact pushCells_keeps _ _ _ _ (Heap.get?_push_of_some _ e)
    have fpn : ∀ {z' : L2.St} {H' : Hp} {s' : Shared}, Inv (X.blk s3 H3 sc ce fp) [] z' H' s' → (∀ b ∈ fp, H' b = none) → ∀ b ∈ fp, FpOk (X.blk s3 H3 sc ce fp) [] H' b := fun {z' H' s'} J' n b hb =>
      ⟨n b hb, (J'.ok.exf b hb).1, J'.ok.exfs b hb, .inl hb, fun x c e => (J'.ok.exf b hb).2 x c e, fun p hp => absurd (show p ∈ ([] : List (Addr × Obj)) ++ [] from hp) (by simp)⟩
    have loop := PpSet.compLoopS_any (prog := X.prog) (w := X.w) (A := X.A) (R := compPost (model X.prog X.w) X.A X.xe use Qf (.ref D) s3.heap.objs.size) (env := ce) (elt := elt) (target := tg) (iter := iter) (ifs := ifs) (scope := sc) (pos := p0) (it := .ref it) (acc := .ref D)
      (fun n s' => ∃ i H', Inv (X.blk s3 H3 sc ce fp) [] (wipe z (own.map (·.2))) H' s' ∧ tn i s'.heap ∧ (∀ b ∈ fp, H' b = none) ∧ W i n H') ?_ m0 (s := s4) ⟨0, H3, I4, st4, fun b hb => (f3 b hb).1.1, w0⟩
    · exact PpSet.codeAny_compStart_set loop (T.self X.A 0 _ _ _ st4 loop)
    rintro n s5 ⟨i, H5, I5, st5, n5, w5⟩
    rcases turn i n H5 w5 with ⟨stop, qq⟩ | ⟨go, Nx, hNx, step⟩
    · refine thnF (T.done (X.blk s3 H3 sc ce fp) rfl rfl rfl calm i [] s5 _ H5 (fun _ _ => False) I5 (fpn I5 n5) st5 stop) ?_
      rintro _ s6 ⟨rfl, I6⟩
      have nC : H5 s3.heap.objs.size = none := by
        rw [← cL]
        exact I6.free
      obtain ⟨m, hn, _⟩ := I6.loc
      refine out D s3.heap.objs.size s6 m H5 ?_ qq (by rw [← cL]; exact hn) (I3.fpOk (Nat.le_refl _) nC)
      refine I3.call' (ch := fp) I6.os I6.base I6.hok I6.bare fun b hb => ?_
      obtain ⟨⟨_, k1, k2, k3, k4, k5⟩, _⟩ := f3 b hb
      exact ⟨k3, k1, k4, k5⟩
    · refine thnF (T.item (X.blk s3 H3 sc ce fp) rfl rfl rfl calm i [] s5 _ H5 (fun _ _ => False) I5 (fpn I5 n5) st5 go) ?_
      rintro _ s6 ⟨u, rfl, h6⟩
      refine thnF h6 ?_
      rintro _ s7 ⟨x, H7, I7, r7, y7, st7, n7⟩
      refine thnF (pg.run _ s7 _ H7 x u _ (I7.pinned (fpn I7 n7) (T.obj _ _ st7)) r7 (step x H7 y7)) ?_
      rintro _ s8 ⟨z8, H8, I8, hw8, q8⟩
      refine thnF (pt.run _ s8 z8 H8 _ I8 q8) ?_
      rintro b s9 ⟨H9, I9, q9⟩
      have fin : ∀ {s' : Shared} {H' : Hp}, Inv (X.blk s3 H3 sc ce fp) ([] ++ pinsAt fp s7.heap) z8 H' s' → Nx H' → ∃ m, m < n ∧ ∃ i H', Inv (X.blk s3 H3 sc ce fp) [] (wipe z (own.map (·.2))) H' s' ∧ tn i s'.heap ∧ (∀ b ∈ fp, H' b = none) ∧ W i m H' := fun {s' H'} I' nx => by
        obtain ⟨m', hm, w'⟩ := hNx H' nx
        have stay : ∀ b ∈ fp, ∀ o, s7.heap.get? b = some o → s'.heap.get? b = some o ∧ H' b = none := fun b hb o e => by
          have k := I'.pin (b, o) (List.mem_append_right _ (List.mem_append_right _ (mem_pinsAt hb e)))
          exact ⟨k.1, k.2.1⟩
        refine ⟨m', hm, i + 1, H', (I'.unpinned (pins := [])).weak (by rw [← hw8, wipe_length]) fun j v e => ?_, T.keep _ _ _ st7 fun b hb o e => (stay b hb o e).1, fun b hb => ?_, w'⟩
        · rw [← hw8] at e
          exact (wipe_some e).1
        · obtain ⟨o, e, _⟩ := T.obj _ _ st7 b hb
          exact (stay b hb o e).2
      cases b with
      | false =>
        rw [if_neg Bool.false_ne_true] at q9
        simp only [Bool.false_eq_true, if_false]
        exact fin I9 q9
      | true =>
        rw [if_pos rfl] at q9
        simp only [if_true]
        refine thnF (pe.run _ s9 z8 H9 _ I9 q9) ?_
        rintro v s10 ⟨y, H10, I10, r10, q10⟩
        refine thnF (hr (X.blk s3 H3 sc ce fp) rfl _ s10 z8 H10 (.ref D) [y] (.ref D) [v] _ I10 rfl (.cons r10 .nil) q10) ?_
        rintro _ s11 ⟨_, H11, I11, _, q11⟩
        exact fin I11 q11
  exact start _ rfl
theorem pe_set (calm : X.calm = true) (nd : X.N.Nodup) (hi : PI X tg iter wi) (ok : BlkOk X.N X.env.scope sc own)
    (hO : ∀ (P : Program) (H : Hp) (h : Heap), ObjOk P X.w H (h.push (bare X.w)) h.objs.size (O h.objs.size)) (hr : ∀ X' : Cx, X'.w = X.w → MtR X' "set.add" r)
    (hg : ∀ (a : Shared) (b : Hp) (c : Addr) (d : List (PySem.Str × Addr)) (e : List Addr), PG (X.blk a b sc (compEnvC sc d c X.env) e) tg g)
    (ht : ∀ (a : Shared) (b : Hp) (c : Addr) (d : List (PySem.Str × Addr)) (e : List Addr), PTs (X.blk a b sc (compEnvC sc d c X.env) e) ifs tt)
    (he : ∀ (a : Shared) (b : Hp) (c : Addr) (d : List (PySem.Str × Addr)) (e : List Addr), PE (X.blk a b sc (compEnvC sc d c X.env) e) elt te)
    (fold : ∀ x, foldedSetIterable iter X.env x = pure x := by intro _; rfl) :
    PE X (.SetComp elt [⟨tg, iter, ifs, 0⟩] sc p0) (tSet O r wi g tt te (own.map (·.2))) := by
  constructor
  intro ps sh z U R I h
  rw [PpSet.eval_SetComp]
  refine set_run calm nd I hi ok hO hr hg ht he fold h fun D C s2 m U2 I2 q hn f => ⟨m, hn, fun h2 sb => ?_⟩
  obtain ⟨k0, k1, k2, k3, k4, k5⟩ := f
  refine ⟨.ref D, U2, ?_, rfl, q⟩
  exact I2.turned (t' := s2.toks) (fun b o hb e => (sb.2 b hb).trans e) k0 k1 k3 k4 k5
/-- .. of ints -/
theorem pe_setI (calm : X.calm = true) (nd : X.N.Nodup) (hi : PI X tg iter wi) (ok : BlkOk X.N X.env.scope sc own)
    (hg : ∀ (a : Shared) (b : Hp) (c : Addr) (d : List (PySem.Str × Addr)) (e : List Addr), PG (X.blk a b sc (compEnvC sc d c X.env) e) tg g)
    (ht : ∀ (a : Shared) (b : Hp) (c : Addr) (d : List (PySem.Str × Addr)) (e : List Addr), PTs (X.blk a b sc (compEnvC sc d c X.env) e) ifs tt)
    (he : ∀ (a : Shared) (b : Hp) (c : Addr) (d : List (PySem.Str × Addr)) (e : List Addr), PE (X.blk a b sc (compEnvC sc d c X.env) e) elt te)
    (fold : ∀ x, foldedSetIterable iter X.env x = pure x := by intro _; rfl) :
    PE X (.SetComp elt [⟨tg, iter, ifs, 0⟩] sc p0) (tSet (fun D => SetO X.w D (fun _ => false) 0) (rSAdd X.w) wi g tt te (own.map (·.2))) :=
  pe_set calm nd hi ok (fun P H h => setO_new (setR_fresh X.w)) (fun X' e => by rw [← e]; exact mt_sadd) hg ht he fold
end
/-- a walk that fills a set: Pv by the turn and the heap -/
theorem set_it {J : It} {n : Nat} {Gd : Hp → Prop} {Y : Nat → Hp → V → Hp → Prop} (wk : Walk J n Gd Y) {O : Addr → HO} {r : V → List V → Hp → VK → Prop} {g : TG} {tt : TT} {te : TE} {own : List Nat} {z : L2.St} {U : Hp} {D : Addr} {Qd : Hp → Prop} (Pv : Nat → Hp → Prop)
    (h0 : Pv 0 (upd U D (O D))) (hG : ∀ i H, i ≤ n → Pv i H → Gd H)
    (hs : ∀ i x H H', i < n → Pv i H → Y i H x H' → g x (wipe z own) H' fun z2 H2 => wipe z2 own = wipe z own ∧ tt z2 H2 fun b H3 => if b = true then te z2 H3 fun y H4 => r (.ref D) [y] H4 fun _ H5 => Pv (i + 1) H5 else Pv (i + 1) H3)
    (hd : ∀ H, Pv n H → Qd H) :
    ∃ W : Nat → Nat → Hp → Prop, (∃ m, W 0 m (upd U D (O D))) ∧ ∀ i m U2, W i m U2 →
    (J.stop i U2 ∧ Qd U2) ∨
    (J.go i U2 ∧ ∃ Nx : Hp → Prop, (∀ U3, Nx U3 → ∃ m', m' < m ∧ W (i + 1) m' U3) ∧
      ∀ x U3, J.yld i U2 x U3 → g x (wipe z own) U3 fun z2 U4 => wipe z2 own = wipe z own ∧
        tt z2 U4 fun b U5 => if b = true then te z2 U5 fun y U6 => r (.ref D) [y] U6 fun _ U7 => Nx U7 else Nx U5) := by
  refine ⟨fun i m H => i + m = n ∧ Pv i H, ⟨n, by omega, h0⟩, ?_⟩
  rintro i m H ⟨him, hp⟩
  have gd := hG i H (by omega) hp
  rcases Nat.lt_or_ge i n with lt | ge
  · exact .inr ⟨wk.goes i H lt gd, Pv (i + 1), fun H' p' => ⟨n - (i + 1), by omega, by omega, p'⟩, fun x H' y => hs i x H H' lt hp (wk.yields i H x H' lt gd y)⟩
  · obtain rfl : i = n := by omega
    exact .inl ⟨wk.stops H gd, hd H hp⟩
end Qsc
set_option Elab.async false
set_option linter.all false
set_option maxRecDepth 100000
set_option maxHeartbeats 8000000
namespace K07.Sm
open PySem PySem.Spec PyProof.Rows L2 TL Qh Qi Ql ClX
abbrev sInit : Stmt := inClass (top 31) 2
abbrev sResult : Stmt := inClass (top 31) 3
/-- the reason and the index that are due; none if the step can be made -/
def dueX (xs : List V) (ko : Option (List V)) : Option (Str × Option Nat) := if (decide ((1 : Int) ≤ (xs.length : Int)) && decide ((xs.length : Int) ≤ 8)) = true then
  (match xs.findIdx? (fun v => !endingV v) with
    | some i => some (Str.ofString "ending", some i)
    | none => if keepOk ko then none else some (Str.ofString "keep", none)) else some (Str.ofString "words", none)
theorem keep_txt {ko : Option (List V)} (h : keepOk ko = true) : ∃ ks : List Str, ko = some (ks.map V.str) ∧ ks.length ≤ 20 := by
  cases ko with
  | none => cases h
  | some xs =>
    have h : (decide (xs.length ≤ 20) && xs.all wordV) = true := h
    obtain ⟨h1, h2⟩ := Bool.and_eq_true_iff.mp h
    obtain ⟨ks, rfl⟩ := all_txt fun v hv => txt_of (List.all_eq_true.mp h2 v hv)
    have h1 := of_decide_eq_true h1
    rw [List.length_map] at h1
    exact ⟨ks, rfl, h1⟩
structure StemC (K : PySem.W.Frag) (mg : Str → Option Value) (C : Addr) : Prop where
  g : mg "Stem" = some (.ref C)
  cl : Cls K C
  n1 : NoAttr K C "endings"
  n2 : NoAttr K C "keep"
  n3 : NoAttr K C "sizes"
  most : ∃ mc u, CRead K C mc ∧ CVal K C mc "MOST" (.int 8) u
  least : ∃ mc u, CRead K C mc ∧ CVal K C mc "LEAST" (.int 2) u
/-- the lengths of these texts, the greatest first, each once -/
def SizesOf (ss : List Str) (zs : List Int) : Prop := zs.Pairwise (fun a b => b < a) ∧ ∀ z, z ∈ zs ↔ ∃ e ∈ ss, (e.length : Int) = z
/-- an instance with these endings and these words kept -/
def StemAt (C : Addr) (G : Hp) (a : Addr) (ss kk : List Str) : Prop := ∃ dx D1 D2 D3 zs, G a = some (.ins C dx [("endings", .ref D1), ("keep", .ref D2), ("sizes", .ref D3)]) ∧ G D1 = some (.tup (ss.map V.str)) ∧ G D2 = some (.tup (kk.map V.str)) ∧ G D3 = some (.tup (zs.map V.int)) ∧ SizesOf ss zs
theorem StemAt.same {C : Addr} {G G' : Hp} {a : Addr} {ss kk : List Str} (h : StemAt C G a ss kk) (s : Same G G') : StemAt C G' a ss kk := by
  obtain ⟨dx, D1, D2, D3, zs, h1, h2, h3, h4, h5⟩ := h
  exact ⟨dx, D1, D2, D3, zs, s _ _ h1, s _ _ h2, s _ _ h3, s _ _ h4, h5⟩
def spInit (K : PySem.W.Frag) (C CE : Addr) : Sp := fun vs G Q E => ∃ (x dx p : Addr) (xs : List V) (kv : V) (ko : Option (List V)), vs = [.ref x, kv, .ref p] ∧ G x = some (.ins C dx []) ∧ G p = some (.tup xs) ∧ (∀ v ∈ xs, ∀ G', Same G G' → Known K G' v) ∧ xs.length ≤ 1000 ∧ (∀ G', Same G G' → KeepAt K G' kv ko) ∧
  (∀ reason i, dueX xs ko = some (reason, i) → ∀ d G', ErrStep G G' d reason (ixV i) → E (.ref CE) (some d) G') ∧
  (∀ ts ks : List Str, dueX xs ko = none → xs = ts.map V.str → ko = some (ks.map V.str) → ∀ (ss kk : List Str) G', Kp x G G' → StemAt C G' x ss kk → Qs.Asc ts ss → Qs.Asc ks kk → Q .non G')
theorem sq_put {K : PySem.W.Frag} {G : Hp} {D C dx a : Addr} {fs : List (Str × V)} {o : HO} {xs : List V} (h : G D = some (.ins C dx fs)) (hs : SqL K G a xs ∨ SqT K G a xs) : SqL K (L2.upd G D o) a xs ∨ SqT K (L2.upd G D o) a xs := by
  have ne : ∀ u, G a = some u → (∀ C dx fs, u ≠ .ins C dx fs) → a ≠ D := fun u e n z => by
    rw [z, h] at e
    exact n _ _ _ (Option.some.inj e).symm
  rcases hs with ((h | ⟨o, h⟩) | h) | ((h | ⟨o, h⟩) | h)
  · exact .inl (.inl (.inl (by rw [upd_ne (ne _ h (fun _ _ _ z => nomatch z))]; exact h)))
  · exact .inl (.inl (.inr ⟨o, by rw [upd_ne (ne _ h (fun _ _ _ z => nomatch z))]; exact h⟩))
  · exact .inl (.inr h)
  · exact .inr (.inl (.inl (by rw [upd_ne (ne _ h (fun _ _ _ z => nomatch z))]; exact h)))
  · exact .inr (.inl (.inr ⟨o, by rw [upd_ne (ne _ h (fun _ _ _ z => nomatch z))]; exact h⟩))
  · exact .inr (.inr h)
section
variable {P : Program} {w : World} {K : PySem.W.Frag} {mg : Str → Option Value} {base : Heap}
theorem scInit : FnScope ["self", "keep", "endings", "index", "ending"] ["self", "keep", "endings"] (defScope sInit) := ⟨rfl, rfl, rfl, by decide +kernel, rfl, by decide +kernel, by decide +kernel⟩
theorem body_init {C CE : Addr} (B : Blt mg) (T : StemC K mg C) (TE : ErrN P w K mg base "InvalidStep" ["reason", "index"] CE) (F_is_ending : Ok P w K mg base "is_ending" (defArgs sIsEnding) ["value"] 2 (spIsEnding K)) (F_is_keep : Ok P w K mg base "is_keep" (defArgs sIsKeep) ["keep"] 3 (spIsKeep K)) (F_asc : Ok P w K mg base "ascending" (defArgs sAsc) ["values"] 1 (Qi.spAsc K))
    {f : Addr} (cdv : Value) (A : Around) (out : List Env) (t : Shared) (G : Hp) (vs : List V) (Q : VK) (E : XK) (hr : Room 4 (A.deeper (envOfC "Stem.__init__" (defScope sInit) t.heap.objs.size f cdv))) (h : spInit K C CE vs G Q E) :
    ∃ rd, PSs (cxOf (L2.CX P w) P w K mg base ["self", "keep", "endings", "index", "ending"] "Stem.__init__" (defScope sInit) f cdv A out t G E) (defBody sInit) rd ∧ rd { nx := fun _ G' => Q .non G', rt := Q } (start ["self", "keep", "endings", "index", "ending"] vs) G := by
  obtain ⟨x, dx, p, xs, kv, ko, rfl, hx, hp, hk, hn, hkv, kE, kD⟩ := h
  refine ⟨_, (pss_cons (ps_if (pt_not (pt_chain op_le op_le pe_int (pe_callB call_len (by rfl) B.n_len bt_len (pa_cons (pv 2) pa_nil)) (pe_cval (pe_glob (v := .ref C) rfl T.g rfl)))) (pss_one (ps_raise rfl (takes_of rfl rfl rfl rfl) (pmk_errN TE (hr.mono (by decide)) (pa_cons pe_str (pa_cons pe_non pa_nil))))) pss_nil)
    (pss_cons (ps_for (passes_of rfl) rfl (pi_enumT (by rfl) B.n_enumerate (pa_cons (pv 2) pa_nil)) (pg_tup rfl (pgs_cons (pg_name (i := 3) scInit.nd rfl (by first | exact Or.inl rfl | exact Or.inr rfl)) (pgs_cons (pg_name (i := 4) scInit.nd rfl (by first | exact Or.inl rfl | exact Or.inr rfl)) pgs_nil)))
      (pss_one (ps_if (pt_not (pt_val (pe_own F_is_ending (hr.mono (by decide)) takes0 (pa_cons (pv 4) pa_nil)))) (pss_one (ps_raise rfl (takes_of rfl rfl rfl rfl) (pmk_errN TE (hr.mono (by decide)) (pa_cons pe_str (pa_cons (pv 3) pa_nil))))) pss_nil)))
    (pss_cons (ps_if (pt_not (pt_val (pe_own F_is_keep (hr.mono (by decide)) takes0 (pa_cons (pv 1) pa_nil)))) (pss_one (ps_raise rfl (takes_of rfl rfl rfl rfl) (pmk_errN TE (hr.mono (by decide)) (pa_cons pe_str (pa_cons pe_non pa_nil))))) pss_nil)
    (pss_cons (ps_fld (pv 0) (pe_own F_asc (hr.mono (by decide)) takes0 (pa_cons (pv 2) pa_nil)) rfl)
    (pss_cons (ps_fld (pv 0) (pe_own F_asc (hr.mono (by decide)) takes0 (pa_cons (pv 1) pa_nil)) rfl)
    (pss_one (ps_fld (pv 0) (RT.pe_tupRev rfl (by rfl) B.n_tuple (by rfl) B.n_reversed (pe_callB (cr_sortedSet rfl) (by rfl) B.n_sorted bt_sorted (pa_cons (Qsc.pe_setI (own := [("ending", 4)]) (tt := tYes) rfl scInit.nd (pi_tup (pv 2)) (blkOk_by (N := ["self", "keep", "endings", "index", "ending"]) (sc := defScope sInit) (by decide +kernel)) (fun _ _ _ _ _ => pg_name (i := 4) scInit.nd rfl (by first | exact Or.inl rfl | exact Or.inr rfl)) (fun _ _ _ _ _ => pts_nil) (fun _ _ _ _ _ => (pe_callB (r := fun xs H Q => ∃ x n, xs = [x] ∧ LenV K x H n ∧ Q (V.int (n : Nat)) H) call_len (by rfl) B.n_len bt_len (pa_cons (pv 4) pa_nil)))) pa_nil))) rfl))))))), ?_⟩
  refine ⟨_, rfl, .ref p, _, rfl, .inr ⟨_, SqT.of hp, rfl⟩, _, _, rfl, rfl, _, rfl, ?_⟩
  have raise : ∀ (reason : Str) (i : V) (G' : Hp), (∀ d G2, ErrStep G' G2 d reason i → E (.ref CE) (some d) G2) → _ := fun reason i G' kx => errN_end (fields := ["reason", "index"]) (C := CE) (ws := [.str reason, i]) (G1 := G') (Q := fun cls d G' => E cls d G') rfl (by show 2 ≤ 1000; decide) fun d hd => kx d _ ⟨hd, Qh.Same.new hd, upd_same⟩
  have words : (decide ((1 : Int) ≤ (xs.length : Int)) && decide ((xs.length : Int) ≤ 8)) = false → dueX xs ko = some (Str.ofString "words", none) := fun h => by
    unfold dueX
    rw [h]
    rfl
  refine ite2 (fun h1 => ?_) (fun h1 => ?_)
  case refine_2 =>
    refine ⟨_, rfl, iteT ?_⟩
    exact raise "words" .non G (kE _ none (words (by rw [Bool.eq_false_iff.mpr h1, Bool.false_and])))
  obtain ⟨mc, u8, cr, cv⟩ := T.most
  refine ⟨C, mc, .int 8, u8, rfl, cr, cv, ?_⟩
  refine ⟨_, _, rfl, rfl, _, rfl, ?_⟩
  refine ite2 (fun h2 => ?_) (fun h2 => ?_)
  · have h2 : decide ((xs.length : Int) ≤ 8) = false := by simpa using h2
    exact raise "words" .non G (kE _ none (words (by rw [h2, Bool.and_false])))
  have h2 : decide ((xs.length : Int) ≤ 8) = true := by simpa using h2
  have h12 : (decide ((1 : Int) ≤ (xs.length : Int)) && decide ((xs.length : Int) ≤ 8)) = true := by rw [h1, h2]; rfl
  have hn8 : xs.length ≤ 8 := by
    have := of_decide_eq_true h2
    omega
  refine ⟨_, rfl, p, _, rfl, SqT.of hp, for_it walk_enumT (fun i σ' G' => ∃ o3 o4, σ' = [some (.ref x), some kv, some (.ref p), o3, o4] ∧ Same G G' ∧ ∀ j v, j < i → xs[j]? = some v → endingV v = true)
    ⟨none, none, rfl, Same.refl G, fun j v hj _ => absurd hj (Nat.not_lt_zero j)⟩ (fun i σ' G' _ ⟨_, _, _, sm, _⟩ => SqT.of (sm _ _ hp)) ?_ ?_⟩
  · rintro i y σ1 G1 G2 hi ⟨o3, o4, rfl, sm, hw⟩ ⟨Tp, a, b, rfl, hT, rfl, ea, eb⟩
    obtain rfl : a = V.int (i : Int) := (Option.some.inj ea).symm
    have eb : xs[i]? = some b := eb
    have smT : Same G (L2.upd G1 Tp (.tup [V.int (i : Int), b])) := Qh.Same.fresh sm (sm.free hT)
    refine ⟨Tp, _, rfl, SqT.of upd_same, rfl, _, _, rfl, _, _, rfl, rfl, ?_⟩
    refine ⟨_, rfl, b, rfl, hk b (List.mem_of_getElem? eb) _ smT, fun G3 sm3 => ⟨_, rfl, ?_⟩⟩
    have sm' : Same G G3 := smT.trans sm3
    cases e : endingV b with
    | true =>
      refine ⟨_, _, rfl, sm', fun j v hj hjb => ?_⟩
      by_cases hji : j = i
      · subst hji
        rw [eb] at hjb
        cases hjb
        exact e
      · exact hw j v (by omega) hjb
    | false =>
      refine iteT ⟨_, rfl, raise "ending" (.int (i : Int)) G3 fun d G4 es => kE _ (some i) ?_ d G4 ⟨sm'.free es.1, sm'.trans es.2.1, es.2.2⟩⟩
      have hf : xs.findIdx? (fun v => !endingV v) = some i := findIdx_some eb (by rw [e]; rfl) fun j v hj hv => by rw [hw j v hj hv]; rfl
      unfold dueX
      rw [if_pos h12, hf]
  · rintro σ1 G1 ⟨o3, o4, rfl, sm, hw⟩
    have hf : xs.findIdx? (fun v => !endingV v) = none := findIdx_none fun j v hv => by
      rw [hw j v (List.getElem?_eq_some_iff.mp hv).1 hv]
      rfl
    refine ⟨_, rfl, kv, ko, rfl, fun G' s => hkv G' (sm.trans s), fun G2 s2 => ⟨_, rfl, ?_⟩⟩
    have sm2 := sm.trans s2
    cases e : keepOk ko with
    | false =>
      refine iteT (raise "keep" .non G2 fun d G4 es => kE _ none ?_ d G4 ⟨sm2.free es.1, sm2.trans es.2.1, es.2.2⟩)
      unfold dueX
      rw [if_pos h12, hf, e]
      rfl
    | true =>
      have due : dueX xs ko = none := by
        unfold dueX
        rw [if_pos h12, hf, e]
        rfl
      obtain ⟨ts, hts⟩ := all_txt (xs := xs) fun v hv => by
        obtain ⟨j, hj⟩ := List.getElem?_of_mem hv
        exact txt_of (hw j v (List.getElem?_eq_some_iff.mp hj).1 hj)
      obtain ⟨ks, hks, hk20⟩ := keep_txt e
      have hx2 : G2 x = some (.ins C dx []) := sm2 _ _ hx
      have hp2 : G2 p = some (.tup (ts.map V.str)) := by rw [← hts]; exact sm2 _ _ hp
      have tl : ts.length < 64 := by
        rw [hts, List.length_map] at hn8
        omega
      refine ⟨_, rfl, p, ts, rfl, .inr (SqT.of hp2), tl, fun ss D1 G3 asc n3 s3 l3 => ?_⟩
      have sm3 := sm2.trans s3
      have hx3 : G3 x = some (.ins C dx []) := s3 _ _ hx2
      refine ⟨_, rfl, x, C, dx, [], rfl, hx3, T.cl, T.n1, by show 0 < 1000; decide, ?_⟩
      obtain ⟨a, rfl, hS, _, _⟩ := (show KeepAt K G3 kv (some (ks.map V.str)) by rw [← hks]; exact hkv G3 sm3)
      refine ⟨_, rfl, a, ks, rfl, sq_put hx3 hS, by omega, fun kk D2 G4 asc2 n4 s4 l4 => ?_⟩
      have hx4 : G4 x = some (.ins C dx [("endings", .ref D1)]) := s4 _ _ upd_same
      refine ⟨_, rfl, x, C, dx, _, rfl, hx4, T.cl, T.n2, by show 1 < 1000; decide, ?_⟩
      have d1x := tup_ne_ins hx3 D1 _ l3
      have l14 : G4 D1 = some (.tup (ss.map V.str)) := s4 _ _ (by rw [upd_ne d1x]; exact l3)
      have l24 : (L2.upd G4 x (.ins C dx [("endings", .ref D1), ("keep", .ref D2)])) D2 = some (.tup (kk.map V.str)) := by
        rw [upd_ne (tup_ne_ins hx4 D2 _ l4)]
        exact l4
      have l15 : (L2.upd G4 x (.ins C dx [("endings", .ref D1), ("keep", .ref D2)])) D1 = some (.tup (ss.map V.str)) := by
        rw [upd_ne (tup_ne_ins hx4 D1 _ l14)]
        exact l14
      have p4 : G4 p = some (.tup (ts.map V.str)) := s4 _ _ (by rw [upd_ne (tup_ne_ins hx3 p _ (s3 _ _ hp2))]; exact s3 _ _ hp2)
      have p5 : (L2.upd G4 x (.ins C dx [("endings", .ref D1), ("keep", .ref D2)])) p = some (.tup (ts.map V.str)) := by
        rw [upd_ne (tup_ne_ins hx4 p _ p4)]
        exact p4
      have x5 : (L2.upd G4 x (.ins C dx [("endings", .ref D1), ("keep", .ref D2)])) x = some (.ins C dx [("endings", .ref D1), ("keep", .ref D2)]) := upd_same
      have kp5 : Kp x G (L2.upd G4 x (.ins C dx [("endings", .ref D1), ("keep", .ref D2)])) := ((Kp.same sm3).trans Kp.self).trans ((Kp.same s4).trans Kp.self)
      refine ⟨_, rfl, p, rfl, ⟨_, SqT.of p5⟩, fun D hD => ?_⟩
      generalize hG5 : L2.upd G4 x (.ins C dx [("endings", .ref D1), ("keep", .ref D2)]) = G5 at l24 l15 p5 x5 kp5
      have hD : G5 D = none := by rw [← hG5]; exact hD
      refine Qsc.set_it (O := fun D => SetO w D (fun _ => false) 0) (r := rSAdd w) walk_tup (fun i H => ∃ S n, H D = some (SetO w D S n) ∧ Same G5 H ∧ n ≤ i ∧ ∀ k : Int, S k = true ↔ ∃ e ∈ ts.take i, (e.length : Int) = k)
        ⟨fun _ => false, 0, upd_same, by rw [← hG5]; exact Same.new (by rw [hG5]; exact hD), Nat.le_refl _, fun k => by simp⟩ (fun i H _ ⟨S, n, _, sm, _⟩ => SqT.of (sm _ _ p5)) ?_ ?_
      · rintro i v H H' hi ⟨S, n, hS, sm, hn, hm⟩ ⟨rfl, hv⟩
        obtain ⟨e, he, rfl⟩ := map_at hv
        refine ⟨rfl, ?_⟩
        have hel : e.length ≤ 4 := by
          obtain ⟨j, hj⟩ := List.getElem?_of_mem (List.mem_of_getElem? he)
          have h1 : endingV (.str e) = true := hw j (.str e) (by rw [hts, List.length_map]; exact (List.getElem?_eq_some_iff.mp hj).1) (by rw [hts, List.getElem?_map, hj]; rfl)
          have h1 : lettersS e 4 = true := h1
          unfold lettersS at h1
          simp only [Bool.and_eq_true, decide_eq_true_eq] at h1
          omega
        refine ⟨_, rfl, .str e, e.length, rfl, ⟨big_line (by omega), rfl⟩, D, _, S, n, rfl, rfl, hS, ?_, _, _, upd_same, Qh.Same.fresh sm hD, ?_, fun k => ?_⟩
        · rw [List.length_map] at hi
          unfold scanBound
          omega
        · split <;> omega
        · rw [take_get he, Bool.or_eq_true, hm k, decide_eq_true_eq]
          constructor
          · rintro (⟨e', h1, h2⟩ | h)
            · exact ⟨e', List.mem_append_left _ h1, h2⟩
            · exact ⟨e, List.mem_append_right _ List.mem_cons_self, h.symm⟩
          · rintro ⟨e', h1, h2⟩
            rcases List.mem_append.mp h1 with h1 | h1
            · exact .inl ⟨e', h1, h2⟩
            · rw [List.mem_singleton.mp h1] at h2
              exact .inr h2.symm
      · rintro H ⟨S, n, hS, sm, hn, hm⟩
        rw [List.length_map] at hn
        refine ⟨D, S, n, rfl, hS, by omega, fun ns q pw hns hnl hq => ?_⟩
        refine ⟨q, _, rfl, SqL.of upd_same, fun D3 hD3 => ?_⟩
        have sm6 : Same G5 (L2.upd H q (.lst (ns.map V.int))) := sm.trans (Same.new hq)
        have sm7 := sm6.trans (Same.new (o := HO.tup (ns.map V.int).reverse) hD3)
        have x7 := sm7 _ _ x5
        refine ⟨_, rfl, x, C, dx, _, rfl, x7, T.cl, T.n3, by show 2 < 1000; decide, ?_⟩
        have ne : ∀ {b : Addr} {u : HO}, G5 b = some u → (∀ C dx fs, u ≠ .ins C dx fs) → ∀ o, (L2.upd (L2.upd (L2.upd H q (.lst (ns.map V.int))) D3 (.tup (ns.map V.int).reverse)) x o) b = some u := fun {b u} e hu o => by
          rw [upd_ne fun z => hu _ _ _ (Option.some.inj (by rw [← e, z]; exact x5))]
          exact sm7 _ _ e
        refine kD ts ks due hts hks ss kk _ (kp5.trans ((Kp.same sm7).trans Kp.self)) ⟨dx, D1, D2, D3, ns.reverse, by rw [upd_same]; rfl, ne l15 (fun _ _ _ z => nomatch z) _, ne l24 (fun _ _ _ z => nomatch z) _, ?_, ?_, fun z => ?_⟩ asc asc2
        · have hx3 : D3 ≠ x := fun z => by
            rw [z] at hD3
            rw [sm6 _ _ x5] at hD3
            cases hD3
          rw [upd_ne hx3, upd_same, List.map_reverse]
        · rw [List.pairwise_reverse]
          exact pw
        · rw [List.mem_reverse, hns z, hm z]
          have : ts.take (ts.map V.str).length = ts := by rw [List.length_map, List.take_length]
          rw [this]
          constructor
          · rintro ⟨e, h1, h2⟩
            exact ⟨e, (Qs.asc_mem asc e).mpr h1, h2⟩
          · rintro ⟨e, h1, h2⟩
            exact ⟨e, (Qs.asc_mem asc e).mp h1, h2⟩
end
/-- what a call of __init__ with keep = .. asks -/
def spInitK (K : PySem.W.Frag) (C CE : Addr) : Sp := fun vs H Q E => ∃ ws rest z, vs = ws ++ rest ++ [z] ∧ ws.length = 1 ∧ rest.length ≤ sizeLine ∧ ∀ p, H p = Option.none → spInit K C CE (ws ++ [z, V.ref p]) (L2.upd H p (.tup rest)) Q E
section
variable {X : Cx} {W : WX} {k : Nat} {f C : Addr} {sp : Sp} {x pk : Str} {kws : List Keyword} {tkw : TA} {p pos : Pos}
end
/-- what is wished of Stem(*xs, keep=kv) -/
structure Made (K : PySem.W.Frag) (C CE : Addr) (xs : List V) (kv : V) (ko : Option (List V)) (H : Hp) (Q : VK) (E : XK) : Prop where
  hk : ∀ v ∈ xs, ∀ G', Same H G' → Known K G' v
  hn : xs.length ≤ 1000
  hkv : ∀ G', Same H G' → KeepAt K G' kv ko
  kE : ∀ reason i, dueX xs ko = some (reason, i) → ∀ d G', ErrStep H G' d reason (ixV i) → E (.ref CE) (some d) G'
  kD : ∀ ts ks : List Str, dueX xs ko = none → xs = ts.map V.str → ko = some (ks.map V.str) → ∀ (x : Addr) (ss kk : List Str) G', H x = none → Same H G' → StemAt C G' x ss kk → Qs.Asc ts ss → Qs.Asc ks kk → Q (.ref x) G'
theorem Made.same {K : PySem.W.Frag} {C CE : Addr} {xs : List V} {kv : V} {ko : Option (List V)} {G H : Hp} {Q : VK} {E : XK} (m : Made K C CE xs kv ko G Q E) (s : Same G H) : Made K C CE xs kv ko H Q E := by
  exact ⟨fun v hv G' k => m.hk v hv G' (s.trans k), m.hn, fun G' k => m.hkv G' (s.trans k), fun r i h d G' e => m.kE r i h d G' ⟨s.free e.1, s.trans e.2.1, e.2.2⟩,
    fun ts ks h h1 h2 x ss kk G' n k => m.kD ts ks h h1 h2 x ss kk G' (s.free n) (s.trans k)⟩
theorem Made.want {K : PySem.W.Frag} {C CE : Addr} {xs : List V} {kv : V} {ko : Option (List V)} {H : Hp} {Q : VK} {E : XK} (m : Made K C CE xs kv ko H Q E) (x dx : Addr) (hx : H x = none) (hdx : H dx = none) (ne : dx ≠ x) :
    spInitK K C CE (V.ref x :: xs ++ [kv]) (L2.upd (L2.upd H dx (.own x)) x (.ins C dx [])) (fun v H2 => v = .non ∧ Q (.ref x) H2) E := by
  refine ⟨[.ref x], xs, kv, rfl, rfl, big_line (by have := m.hn; omega), fun p hp => ?_⟩
  have px : p ≠ x := fun e => by
    rw [e, upd_same] at hp
    cases hp
  have s1 : Same H (L2.upd (L2.upd H dx (.own x)) x (.ins C dx [])) := fun b o e => by
    rw [upd_ne (ne_of_none e hx), upd_ne (ne_of_none e hdx)]
    exact e
  have s2 : Same H (L2.upd (L2.upd (L2.upd H dx (.own x)) x (.ins C dx [])) p (.tup xs)) := s1.trans (Same.new hp)
  refine ⟨x, dx, p, xs, kv, ko, rfl, by rw [upd_ne px.symm, upd_same], upd_same, fun v hv G' s => m.hk v hv G' (s2.trans s), m.hn, fun G' s => m.hkv G' (s2.trans s), fun r i h d G' e => m.kE r i h d G' ⟨s2.free e.1, s2.trans e.2.1, e.2.2⟩, ?_⟩
  intro ts ks h h1 h2 ss kk G' kp ix a1 a2
  refine ⟨rfl, m.kD ts ks h h1 h2 x ss kk G' hx (fun c o e => ?_) ix a1 a2⟩
  exact kp c o (ne_of_none e hx) (s2 _ _ e)
section
variable {P : Program} {w : World} {K : PySem.W.Frag} {mg : Str → Option Value} {base : Heap}
theorem ok_init {C CE f : Addr} {fd : FuncData} (F : Fun K "__init__" "Stem.__init__" sInit f fd) (B : Blt mg) (T : StemC K mg C) (TE : ErrN P w K mg base "InvalidStep" ["reason", "index"] CE) (F_is_ending : Ok P w K mg base "is_ending" (defArgs sIsEnding) ["value"] 2 (spIsEnding K)) (F_is_keep : Ok P w K mg base "is_keep" (defArgs sIsKeep) ["keep"] 3 (spIsKeep K)) (F_asc : Ok P w K mg base "ascending" (defArgs sAsc) ["values"] 1 (Qi.spAsc K)) :
    FnRK P w K mg base (L2.CX P w) 5 f "keep" (spInitK K C CE) := by
  obtain ⟨oc, od, kV, doc, pm, an, cdv, ct, osl, rfl, lk, hcd⟩ := F.ex
  exact fn_starK (ps := ["self"]) (pv := "endings") (pk := "keep") lk hcd scInit StX.cxUp (fun us rest u hl => match us, rest, hl with
    | [_], [], _ => rfl
    | [_], _ :: _, _ => rfl) fun A out t G vs Q E hr h => body_init B T TE F_is_ending F_is_keep F_asc cdv A out t G vs Q E hr h
end
/-- x from c on -/
def offS (x : Str) (c : Nat) : Str := cutS x (some (c : Int)) none
def uptoS (x : Str) (c : Nat) : Str := cutS x none (some (c : Int))
def dueS (row left : List Str) (x : Str) : Str := if x ∈ left then x else match (List.range (x.length - 2)).find? (fun j => decide (offS x (j + 2) ∈ row)) with
  | some j => uptoS x (j + 2)
  | none => x
theorem cps_len (x : Str) : x.cps.toList.length = x.length := by simp [Str.length]
theorem off_cps {x : Str} {c : Nat} (h : c ≤ x.length) : (offS x c).cps.toList = x.cps.toList.drop c := by
  unfold offS cutS
  rw [HT.sIx_none, HT.sIx_nat, Nat.min_eq_left h]
  show (x.cps.toList.drop c).take (x.length - c) = _
  rw [List.take_of_length_le]
  rw [List.length_drop, cps_len]
  omega
theorem upto_cps {x : Str} {c : Nat} (h : c ≤ x.length) : (uptoS x c).cps.toList = x.cps.toList.take c := by
  unfold uptoS cutS
  rw [HT.sIx_none, HT.sIx_nat, Nat.min_eq_left h]
  rfl
theorem off_len {x : Str} {c : Nat} (h : c ≤ x.length) : (offS x c).length = x.length - c := by
  rw [← cps_len, off_cps h, List.length_drop, cps_len]
/-- what is taken off by a size -/
def fitsS (ss : List Str) (x : Str) (z : Int) : Bool := decide ((x.length : Int) - z ≥ 2) && decide (cutS x (some (-z)) none ∈ ss)
theorem six_back {L n d : Nat} (h0 : 1 ≤ n) (h : n ≤ L) : HT.sIx L d (some (-(n : Int))) = HT.sIx L d (some ((L - n : Nat) : Int)) := by
  rw [HT.sIx_nat, Nat.min_eq_left (Nat.sub_le _ _)]
  show (if -(n : Int) < 0 then (-(n : Int) + (L : Int)).toNat else _) = _
  rw [if_pos (by omega)]
  omega
theorem cut_off {x : Str} {n : Nat} (h0 : 1 ≤ n) (h : n ≤ x.length) : cutS x (some (-(n : Int))) none = offS x (x.length - n) := by
  unfold offS cutS
  rw [six_back h0 h]
theorem cut_upto {x : Str} {n : Nat} (h0 : 1 ≤ n) (h : n ≤ x.length) : cutS x none (some (-(n : Int))) = uptoS x (x.length - n) := by
  unfold uptoS cutS
  rw [six_back h0 h]
/-- the program's way: the first size that fits -/
def resZ (ss kk : List Str) (zs : List Int) (x : Str) : Str := if x ∈ kk then x else match zs.find? (fitsS ss x) with
  | some z => cutS x none (some (-z))
  | none => x
theorem resZ_due {ss kk : List Str} {zs : List Int} {x : Str} (pos : ∀ e ∈ ss, 1 ≤ e.length) (hz : SizesOf ss zs) : resZ ss kk zs x = dueS ss kk x := by
  unfold resZ dueS
  by_cases hx : x ∈ kk
  · rw [if_pos hx, if_pos hx]
  · rw [if_neg hx, if_neg hx]
    -- a size that fits is a cut
    have back : ∀ z ∈ zs, fitsS ss x z = true → ∃ j, j < x.length - 2 ∧ offS x (j + 2) ∈ ss ∧ z = ((x.length - (j + 2) : Nat) : Int) := fun z hm hf => by
      obtain ⟨e, he, rfl⟩ := (hz.2 z).mp hm
      obtain ⟨h1, h2⟩ := Bool.and_eq_true_iff.mp hf
      have h1 := of_decide_eq_true h1
      have h2 := of_decide_eq_true h2
      have hp := pos e he
      rw [cut_off hp (by omega)] at h2
      refine ⟨x.length - e.length - 2, by omega, ?_, by omega⟩
      rw [show x.length - e.length - 2 + 2 = x.length - e.length by omega]
      exact h2
    have key : ∀ j, j < x.length - 2 → offS x (j + 2) ∈ ss → ((x.length - (j + 2) : Nat) : Int) ∈ zs ∧ fitsS ss x ((x.length - (j + 2) : Nat) : Int) = true := fun j hj hm => by
      have hl := off_len (x := x) (c := j + 2) (by omega)
      refine ⟨(hz.2 _).mpr ⟨_, hm, by rw [hl]⟩, Bool.and_eq_true_iff.mpr ⟨decide_eq_true (by omega), decide_eq_true ?_⟩⟩
      rw [cut_off (by omega) (by omega), show x.length - (x.length - (j + 2)) = j + 2 by omega]
      exact hm
    cases hf : (List.range (x.length - 2)).find? (fun j => decide (offS x (j + 2) ∈ ss)) with
    | none =>
      have hn := List.find?_range_eq_none.mp hf
      have e : zs.find? (fitsS ss x) = none := List.find?_eq_none.mpr fun z hm hfit => by
        obtain ⟨j, hj, hm', _⟩ := back z hm hfit
        have := hn j hj
        rw [decide_eq_true hm'] at this
        cases this
      rw [e]
    | some j =>
      obtain ⟨hp, hr, hmin⟩ := List.find?_range_eq_some.mp hf
      have hj := List.mem_range.mp hr
      have hm := of_decide_eq_true hp
      obtain ⟨k1, k2⟩ := key j hj hm
      have e : zs.find? (fitsS ss x) = some ((x.length - (j + 2) : Nat) : Int) := by
        cases ef : zs.find? (fitsS ss x) with
        | none =>
          have := List.find?_eq_none.mp ef _ k1
          exact absurd k2 this
        | some z =>
          have hzm := List.mem_of_find?_eq_some ef
          have hzf := List.find?_some ef
          obtain ⟨j', hj', hm', ez⟩ := back z hzm hzf
          have a2 : j ≤ j' := by
            refine Nat.le_of_not_lt fun hlt => ?_
            have := hmin j' hlt
            rw [decide_eq_true hm'] at this
            cases this
          -- the first that fits is the greatest
          have ge : ((x.length - (j + 2) : Nat) : Int) ≤ z := by
            obtain ⟨_, as, bs, hab, hall⟩ := List.find?_eq_some_iff_append.mp ef
            rw [hab] at k1
            rcases List.mem_append.mp k1 with h1 | h1
            · have := hall _ h1
              rw [k2] at this
              cases this
            · rcases List.mem_cons.mp h1 with h1 | h1
              · rw [h1]
                exact Int.le_refl _
              · have pw := hz.1
                rw [hab] at pw
                have := (List.pairwise_append.mp pw).2.1
                exact Int.le_of_lt ((List.pairwise_cons.mp this).1 _ h1)
          congr 1
          omega
      rw [e]
      show cutS x none (some (-((x.length - (j + 2) : Nat) : Int))) = _
      rw [cut_upto (by omega) (by omega), show x.length - (x.length - (j + 2)) = j + 2 by omega]
/-- what a stem makes of a word -/
def resS (ss kk : List Str) (x : Str) : Str := dueS ss kk x
theorem res_due {row left ss kk : List Str} {x : Str} (h1 : ∀ y, y ∈ ss ↔ y ∈ row) (h2 : ∀ y, y ∈ kk ↔ y ∈ left) (_pos : ∀ e ∈ row, 1 ≤ e.length) : resS ss kk x = dueS row left x := by
  unfold resS dueS
  have e : (fun j => decide (offS x (j + 2) ∈ ss)) = fun j => decide (offS x (j + 2) ∈ row) := by
    funext j
    exact decide_eq_decide.mpr (h1 _)
  rw [e]
  by_cases hx : x ∈ left
  · rw [if_pos hx, if_pos ((h2 x).mpr hx)]
  · rw [if_neg hx, if_neg fun h => hx ((h2 x).mp h)]
theorem inV_strs (y : Str) : ∀ l : List Str, inV (.str y) (l.map V.str) = decide (y ∈ l)
  | [] => rfl
  | a :: l => by
    show ((a == y) || inV (.str y) (l.map V.str)) = _
    rw [inV_strs y l]
    by_cases h : a = y
    · subst h
      simp
    · have : (a == y) = false := by simpa using h
      rw [this, Bool.false_or]
      by_cases h2 : y ∈ l
      · rw [decide_eq_true h2, decide_eq_true (List.mem_cons_of_mem _ h2)]
      · rw [decide_eq_false h2, decide_eq_false fun z => (List.mem_cons.mp z).elim (fun e => h e.symm) h2]
theorem flat_strs (l : List Str) : (l.map V.str).all flatV = true := by
  rw [List.all_map]
  exact List.all_eq_true.mpr fun _ _ => rfl
def spResult (C : Addr) : Sp := fun vs G Q _ => ∃ (a : Addr) (ss kk : List Str) (v : V), vs = [.ref a, v] ∧ StemAt C G a ss kk ∧ ss.length ≤ 1000 ∧ (∀ e ∈ ss, 1 ≤ e.length ∧ e.length ≤ 1000) ∧ ((v = .non ∧ Q .non G) ∨ ∃ x, v = .str x ∧ x.length ≤ 1000 ∧ ∀ G', Same G G' → Q (.str (resS ss kk x)) G')
section
variable {P : Program} {w : World} {K : PySem.W.Frag} {mg : Str → Option Value} {base : Heap}
abbrev resN : List Str := ["self", "value", "size"]
theorem scResult : FnScope resN ["self", "value"] (defScope sResult) := ⟨rfl, rfl, rfl, by decide +kernel, rfl, by decide +kernel, by decide +kernel⟩
theorem ok_result {C f : Addr} {fd : FuncData} (F : Fun K "result" "Stem.result" sResult f fd) (B : Blt mg) (T : StemC K mg C) : FnOk P w K mg base (L2.CX P w) 1 f fd ["self", "value"] (spResult C) := by
  refine F.okX scResult (fun vs G Q E h => ?_) (fun cdv A out t G vs Q E hr h => ?_)
  · obtain ⟨a, ss, kk, v, rfl, _⟩ := h
    rfl
  · obtain ⟨a, ss, kk, v, rfl, ⟨dx, D1, D2, D3, zs, h1, h2, h3, h4, h5⟩, hn, hl, k⟩ := h
    refine ⟨_, (pss_cons (ps_if (PW.pt (pw_or (pt_cmpR op_isN (pv 1) pe_non (nomark _)) (pw_or1 (pt_cmpR op_in_seq (pv 1) (pe_fld (pv 0) rfl) (by rfl))))) (pss_one (ps_ret (pv 1))) pss_nil)
    (pss_cons (ps_for (passes_of rfl) rfl (pi_tup (pe_fld (pv 0) rfl)) (pg_name (i := 2) scResult.nd rfl (by first | exact Or.inl rfl | exact Or.inr rfl))
      (pss_one (ps_if (PW.pt (pw_and (pt_cmpR op_ge (pe_op op_sub (pe_callB (r := rLen K) call_len (by rfl) B.n_len bt_len (pa_cons (pv 1) pa_nil)) (pv 2)) (pe_cval (pe_glob (v := .ref C) rfl T.g rfl)) (nomark _)) (pw_and1 (pt_cmpR op_in_seq (pe_slice sl_str (pv 1) (po_some (pe_un un_neg (pv 2))) po_none) (pe_fld (pv 0) rfl) (by rfl))))) (pss_one (ps_ret (pe_slice sl_str (pv 1) po_none (po_some (pe_un un_neg (pv 2)))))) pss_nil)))
    (pss_one (ps_ret (pv 1))))), ?_⟩
    rcases k with ⟨rfl, k⟩ | ⟨x, rfl, hx, k⟩
    · refine ⟨_, rfl, rfl, _, rfl, ?_⟩
      exact iteT ⟨_, rfl, k⟩
    · refine ⟨_, rfl, rfl, _, rfl, ?_⟩
      refine iteF ?_
      have hin : inV (.str x) (kk.map V.str) = decide (x ∈ kk) := inV_strs x kk
      refine ⟨_, rfl, _, rfl, a, C, dx, _, _, rfl, h1, T.cl, T.n2, rfl, D2, _, rfl, .inr (SqT.of h3), rfl, flat_strs kk, _, rfl, ?_⟩
      have k0 := k G (Same.refl G)
      have due : resS ss kk x = resZ ss kk zs x := (resZ_due (fun e he => (hl e he).1) h5).symm
      rw [due] at k0
      unfold resZ at k0
      rw [show (if false = true then !inV (.str x) (kk.map V.str) else inV (.str x) (kk.map V.str)) = decide (x ∈ kk) from hin]
      refine ite2 (fun hk => ?_) (fun hk => ?_)
      · rw [if_pos (of_decide_eq_true hk)] at k0
        exact ⟨_, rfl, k0⟩
      · rw [if_neg fun h => hk (decide_eq_true h)] at k0
        obtain ⟨mc, u2, cr, cv⟩ := T.least
        have big : x.length ≤ sizeLine := big_line (by omega)
        refine ⟨_, rfl, a, C, dx, _, _, rfl, h1, T.cl, T.n3, rfl, D3, rfl, ⟨_, SqT.of h4⟩, for_it walk_tup (fun i σ' G' => ∃ o2, σ' = [some (.ref a), some (.str x), o2] ∧ G' = G ∧ ∀ j z, j < i → zs[j]? = some z → fitsS ss x z = false)
          ⟨none, rfl, rfl, fun j z hj _ => absurd hj (Nat.not_lt_zero j)⟩ (fun i σ' G' _ ⟨_, _, e, _⟩ => by rw [e]; exact SqT.of h4) ?_ ?_⟩
        · rintro i v σ1 G1 G1' hi ⟨o2, rfl, rfl, hno⟩ ⟨rfl, hv⟩
          obtain ⟨z, hz, rfl⟩ := map_at hv
          have go_on : fitsS ss x z = false → ∀ j z', j < i + 1 → zs[j]? = some z' → fitsS ss x z' = false := fun hf j z' hj hjz => by
            by_cases hji : j = i
            · subst hji
              rw [hz] at hjz
              rw [← Option.some.inj hjz]
              exact hf
            · exact hno j z' (by omega) hjz
          refine ⟨_, rfl, .str x, x.length, rfl, ⟨big, rfl⟩, _, rfl, _, _, rfl, rfl, C, mc, .int 2, u2, rfl, cr, cv, _, _, rfl, rfl, _, rfl, ?_⟩
          refine ite2 (fun b1 => ?_) (fun b1 => ?_)
          · refine ⟨_, rfl, _, rfl, _, rfl, _, rfl, x, rfl, big, _, rfl, a, C, dx, _, _, rfl, h1, T.cl, T.n1, rfl, D1, _, rfl, .inr (SqT.of h2), rfl, flat_strs ss, _, rfl, ?_⟩
            rw [show (if false = true then !inV (.str (cutS x (some (-z)) none)) (ss.map V.str) else inV (.str (cutS x (some (-z)) none)) (ss.map V.str)) = decide (cutS x (some (-z)) none ∈ ss) from inV_strs _ ss]
            refine ite2 (fun b2 => ?_) (fun b2 => ?_)
            · have hfit : fitsS ss x z = true := by
                unfold fitsS
                rw [b2, Bool.and_true]
                exact b1
              have hf : zs.find? (fitsS ss x) = some z := by
                refine List.find?_eq_some_iff_getElem.mpr ⟨hfit, i, (List.getElem?_eq_some_iff.mp hz).1, (List.getElem?_eq_some_iff.mp hz).2, fun j hj => ?_⟩
                have hjl : j < zs.length := Nat.lt_trans hj (List.getElem?_eq_some_iff.mp hz).1
                rw [hno j _ hj (List.getElem?_eq_getElem hjl)]
                rfl
              rw [hf] at k0
              exact ⟨_, rfl, _, rfl, _, rfl, _, rfl, x, rfl, big, k0⟩
            · refine ⟨_, rfl, rfl, go_on ?_⟩
              unfold fitsS
              rw [Bool.eq_false_iff.mpr b2, Bool.and_false]
          · refine ⟨_, rfl, rfl, go_on ?_⟩
            unfold fitsS
            have b1 : decide ((x.length : Int) - z ≥ 2) = false := by simpa using b1
            rw [b1, Bool.false_and]
        · rintro σ1 G1 ⟨o2, rfl, rfl, hno⟩
          have hf : zs.find? (fitsS ss x) = none := List.find?_eq_none.mpr fun z hm => by
            obtain ⟨j, hj⟩ := List.getElem?_of_mem hm
            rw [hno j z (by rw [List.length_map]; exact (List.getElem?_eq_some_iff.mp hj).1) hj]
            exact Bool.false_ne_true
          rw [hf] at k0
          exact ⟨_, rfl, k0⟩
end
end K07.Sm
set_option Elab.async false
set_option linter.all false
set_option maxRecDepth 100000
set_option maxHeartbeats 4000000
/-! sorted(list of tuples of ints and texts of one shape), sorted(d.items()). -/
namespace Qst
open PySem PySem.Spec PyProof.Rows L2 SrtO
/-- where the tuple v stands -/
def plc (h : Heap) (sh : Nat → Bool) (v : Value) : List (Int ⊕ List Nat) := (tupKey h sh v).getD []
def ltv (h : Heap) (sh : Nat → Bool) (v u : Value) : Bool := lexLt itemOrd (plc h sh v) (plc h sh u)
theorem lex_swo {β : Type} (f : β → List (Int ⊕ List Nat)) : Swo fun v u => lexLt itemOrd (f v) (f u) := by
  refine ⟨fun x y h => ?_, fun x y z h1 h2 => ?_⟩
  · cases e : lexLt itemOrd (f y) (f x) with
    | false => rfl
    | true =>
      have := lex_trans (O := itemOrd) _ _ _ h e
      rw [lex_irrefl (O := itemOrd)] at this
      cases this
  · cases e : lexLt itemOrd (f z) (f x) with
    | false => rfl
    | true =>
      rcases lex_negTrans (O := itemOrd) _ (f y) _ e with k | k
      · rw [show lexLt itemOrd (f z) (f y) = false from h2] at k
        cases k
      · rw [show lexLt itemOrd (f y) (f x) = false from h1] at k
        cases k
/-- a key as the order sees it -/
def ik : Key → Int ⊕ List Nat
  | .inl i => .inl i
  | .inr x => .inr x.cps.toList
def ltK (a b : List Key) : Bool := lexLt itemOrd (a.map ik) (b.map ik)
/-- the shape: which items are texts; there is a first one -/
def Shp (sh : Nat → Bool) (ks : List Key) : Prop := ks ≠ [] ∧ ∀ i k, ks[i]? = some k → (sh i = true ↔ ∃ x, k = .inr x)
theorem items_key {sh : Nat → Bool} : ∀ {ks : List Key} {us : List Value} (n : Nat), Vals (ks.map kV) us → (∀ i k, ks[i]? = some k → (sh (n + i) = true ↔ ∃ x, k = .inr x)) → tupItems sh n us = some (ks.map ik)
  | [], _, n, r, _ => by
    cases r
    unfold tupItems
    rfl
  | k :: ks, _, n, r, hs => by
    cases r with
    | cons r1 r2 =>
      have ih := items_key (n + 1) r2 fun i k' e => by
        have := hs (i + 1) k' (by simpa using e)
        rw [show n + 1 + i = n + (i + 1) by omega]
        exact this
      have h0 := hs 0 k rfl
      rw [Nat.add_zero] at h0
      cases k with
      | inl i =>
        obtain ⟨t, rfl⟩ := r1
        have e : sh n = false := by
          cases e : sh n with
          | false => rfl
          | true =>
            obtain ⟨x, hx⟩ := h0.mp e
            cases hx
        unfold tupItems
        rw [if_neg (by rw [e]; exact Bool.false_ne_true), ih]
        rfl
      | inr x =>
        obtain ⟨t, rfl⟩ := r1
        have e : sh n = true := h0.mpr ⟨x, rfl⟩
        unfold tupItems
        rw [if_pos e, ih]
        rfl
/-- v is a tuple of these keys -/
def IsT (h : Heap) (v : Value) (ks : List Key) : Prop := ∃ a o us n, v = .ref a ∧ h.get? a = some o ∧ o.cls = .type "tuple" ∧ o.data = .seq us n ∧ Vals (ks.map kV) us.toList
theorem IsT.keeps {h h' : Heap} {v : Value} {ks : List Key} (x : IsT h v ks) (k : ∀ b o, h.get? b = some o → o.cls = .type "tuple" → h'.get? b = some o) : IsT h' v ks := by
  obtain ⟨a, o, us, n, e, ho, hc, hd, r⟩ := x
  exact ⟨a, o, us, n, e, k _ _ ho hc, hc, hd, r⟩
theorem IsT.key {h : Heap} {v : Value} {ks : List Key} {sh : Nat → Bool} (x : IsT h v ks) (s : Shp sh ks) : tupKey h sh v = some (ks.map ik) := by
  obtain ⟨a, o, us, n, rfl, ho, hc, hd, r⟩ := x
  unfold tupKey
  simp only [ho, hd]
  exact items_key 0 r fun i k e => by
    rw [Nat.zero_add]
    exact s.2 i k e
theorem IsT.plc {h : Heap} {v : Value} {ks : List Key} {sh : Nat → Bool} (x : IsT h v ks) (s : Shp sh ks) : plc h sh v = ks.map ik := by
  unfold Qst.plc
  rw [x.key s]
  rfl
theorem IsT.tup {h : Heap} {v : Value} {ks : List Key} {sh : Nat → Bool} (x : IsT h v ks) (s : Shp sh ks) : ∃ f, TupOf h sh v f := by
  obtain ⟨a, o, us, n, rfl, ho, hc, hd, r⟩ := x
  cases ks with
  | nil => exact absurd rfl s.1
  | cons k ks =>
    have h0 := s.2 0 k rfl
    generalize hu : us.toList = l at r
    cases r with
    | @cons a f l1 l2 r1 r2 =>
      refine ⟨f, a, o, us, n, rfl, ho, hc, hd, ?_, fun e => ?_, fun e => ?_⟩
      · rw [← Array.getElem?_toList, hu]
        rfl
      · cases k with
        | inl i =>
          obtain ⟨t, rfl⟩ := r1
          exact ⟨i, t, rfl⟩
        | inr x =>
          have := h0.mpr ⟨x, rfl⟩
          rw [e] at this
          cases this
      · obtain ⟨x, rfl⟩ := h0.mp e
        obtain ⟨t, rfl⟩ := r1
        exact ⟨x, t, rfl⟩
theorem tups_of {h : Heap} {sh : Nat → Bool} : ∀ (vs : List Value), (∀ v ∈ vs, ∃ ks, IsT h v ks ∧ Shp sh ks) → ∃ fs, TupsOf h sh vs fs ∧ fs.length = vs.length
  | [], _ => ⟨[], .nil, rfl⟩
  | v :: vs, H => by
    obtain ⟨ks, x, s⟩ := H v List.mem_cons_self
    obtain ⟨f, t⟩ := x.tup s
    obtain ⟨fs, ts, hl⟩ := tups_of vs fun u hu => H u (List.mem_cons_of_mem _ hu)
    exact ⟨f :: fs, .cons t ts, by rw [List.length_cons, List.length_cons, hl]⟩
section
variable {prog : Program} {w : World} {A : Around} {E : Value → Shared → Prop} {s : Shared}
theorem sortable {a : Addr} {vs : List Value} {sh : Nat → Bool} {h0 : Heap} (h2 : 2 ≤ vs.length) (hp : ∀ v ∈ vs, ∃ ks, IsT h0 v ks ∧ IsT s.heap v ks ∧ Shp sh ks) (ha : ∀ o, s.heap.get? a = some o → o.cls ≠ .type "tuple") : SortableO prog w A s a vs (ltv h0 sh) := by
  intro h' keep
  have hp' : ∀ v ∈ vs, ∃ ks, IsT h0 v ks ∧ IsT h' v ks ∧ Shp sh ks := fun v hv => by
    obtain ⟨ks, x0, x, sp⟩ := hp v hv
    exact ⟨ks, x0, x.keeps fun b o e c => keep b o (fun z => by subst z; exact ha o e c) e, sp⟩
  obtain ⟨fs, ts, hl⟩ := tups_of (h := h') vs fun v hv => by
    obtain ⟨ks, _, x, sp⟩ := hp' v hv
    exact ⟨ks, x, sp⟩
  refine ⟨tuples' true, fun Q E hq => tup_kind (s := { s with heap := h' }) (by omega) ts hq, ?_⟩
  intro p q hm hm'
  obtain ⟨k1, x0, x1, s1⟩ := hp' _ hm
  obtain ⟨k2, y0, y1, s2⟩ := hp' _ hm'
  refine tup_ltAt (s := { s with heap := h' }) true A _ p.1 q.1 _ _ (x1.key s1) (y1.key s2) ⟨rfl, ?_⟩
  show lexLt itemOrd (k1.map ik) (k2.map ik) = ltv h0 sh p.1 q.1
  unfold ltv
  rw [x0.plc s1, y0.plc s2]
end
theorem vals_ref : ∀ (xs : List (Addr × List Key)), Vals (xs.map fun x => V.ref x.1) (xs.map fun x => Value.ref x.1)
  | [] => .nil
  | x :: xs => .cons rfl (vals_ref xs)
section
variable {X : Cx}
end
end Qst
namespace Qst
open PySem PySem.Spec PyProof.Rows L2 SrtO PySem.W
section
variable {X : Cx}
/-- d.items() as a value -/
def rItems : V → List V → Hp → VK → Prop := fun x xs H Q => ∃ (a : Addr) (kvs : List (Key × V)), x = .ref a ∧ xs = [] ∧ H a = some (.dK kvs) ∧ ∀ p, H p = none → Q (.ref p) (L2.upd H p (DX.itemsO p a))
theorem mt_items : MtR X "dict.items" rItems := by
  intro pins s σ H x xs v us Q I rx rxs h
  obtain ⟨a, kvs, rfl, rfl, ha, q⟩ := h
  cases rx
  cases rxs
  obtain ⟨_, hd, xs', _, o, es, ep, ho, hx, hdat, _⟩ := dk_of I.hok ha
  refine DT.callItems (es := es) (ep := ep) hd ⟨o, ho, hx, hdat⟩ ?_
  refine ⟨.ref s.heap.objs.size, _, I.laid (t' := s.toks) (fun b u e => Heap.get?_push_of_some _ e) (Nat.le_refl _) (DX.itemsO_ok (Heap.get?_push_size _ rfl)), rfl, q _ (I.hok.fresh (Nat.le_refl _))⟩
end
end Qst
namespace Qst
open PySem PySem.Spec PyProof.Rows L2 SrtO PySem.W
/-- what stands side by side -/
theorem pairs_at {P : Program} {w : World} {es : List DictEntry} {vs : List (Key × Value)} (h : Pairs (mixKind P w) es vs) : ∀ {j : Nat} {e : DictEntry}, es[j]? = some e → ∃ v, vs[j]? = some v ∧ keyIs v.1 e.key = true ∧ e.val = v.2 := by
  induction h with
  | nil => intro j e hj; simp at hj
  | cons h1 h2 _ ih =>
    intro j e hj
    cases j with
    | zero =>
      obtain rfl : _ = e := by simpa using hj
      exact ⟨_, rfl, h1, h2⟩
    | succ j =>
      obtain ⟨v, hv, k⟩ := ih (j := j) (e := e) (by simpa using hj)
      exact ⟨v, by simpa using hv, k⟩
theorem paired_at {α β : Type} {F : α → β → Prop} : ∀ {l : List α} {m : List β} {j : Nat} {x : β}, Paired F l m → m[j]? = some x → ∃ y, l[j]? = some y ∧ F y x
  | _, _, j, x, .nil, h => by simp at h
  | _, _, 0, x, .cons (a := y) f _, h => by
    obtain rfl : _ = x := by simpa using h
    exact ⟨y, rfl, f⟩
  | _, _, j + 1, x, .cons _ t, h => by
    obtain ⟨y, h1, h2⟩ := paired_at (j := j) t (by simpa using h)
    exact ⟨y, by simpa using h1, h2⟩
section
variable {X : Cx}
/-- sorted(d.items()): the pairs are new -/
def rSortItems : List V → Hp → VK → Prop := fun vs H Q => ∃ (p a : Addr) (kvs : List (Key × Key)) (sh : Nat → Bool), vs = [.ref p] ∧ H p = some (DX.itemsO p a) ∧ H a = some (.dK (kvs.map fun e => (e.1, kV e.2))) ∧ (∀ e ∈ kvs, Shp sh [e.1, e.2]) ∧
  ∀ (H' : Hp) (l : Addr) (ps : List (Addr × List Key)), (∀ b o, H b = some o → H' b = some o) → (ps.map (·.2)).Perm (kvs.map fun e => [e.1, e.2]) → ps.Pairwise (fun x y => ltK y.2 x.2 = false) → H l = none → H' l = some (.lst (ps.map fun z => V.ref z.1)) → (∀ z ∈ ps, H' z.1 = some (.tup (z.2.map kV))) → Q (.ref l) H'
theorem cr_sortItems (hc : X.calm = true) : CallR X (.builtin "sorted") rSortItems := by
  intro pins s σ H xs us Q I r h
  obtain ⟨p, a, kvs, sh, rfl, hp, ha, hsh, q⟩ := h
  obtain rfl := Vals.ref1 r
  have view : s.heap.IsItemsView p a := (show ObjOk X.prog X.w H s.heap p (DX.itemsO p a) from I.hok p _ hp).1
  obtain ⟨z, hd, vs, rel, o, es, ep, ho, hx, hdat, _, prs, _⟩ := dk_of I.hok ha
  have n1 : kvs.length = vs.length := by
    have := Paired.length rel
    rw [List.length_map] at this
    exact this
  have n2 : es.size = vs.length := by
    rw [← Array.length_toList]
    exact prs.length
  have hh : X.A.handled = none := I.ok.hd hc
  have small : es.size ≤ sizeLine := by
    rw [List.length_map] at z
    omega
  refine DT.sortedI (es := es) (ep := ep) hh view ⟨o, ho, hx, hdat⟩ small fun h' tk as hk hlt hl made => ?_
  have nd : as.Nodup := made.rise.imp fun h => Nat.ne_of_lt h
  -- the new pairs
  have pr : ∀ (j : Nat) (b : Addr), as[j]? = some b → ∃ e : Key × Key, kvs[j]? = some e ∧ IsT h' (.ref b) [e.1, e.2] := by
    intro j b hj
    obtain ⟨en, he, hg⟩ := made.pairs j b hj
    obtain ⟨v, hv, k1, k2⟩ := pairs_at prs (j := j) (e := en) (by rw [Array.getElem?_toList]; exact he)
    obtain ⟨y, hy, r1, r2⟩ := paired_at rel hv
    rw [List.getElem?_map] at hy
    cases hkj : kvs[j]? with
    | none =>
      rw [hkj] at hy
      cases hy
    | some e =>
      rw [hkj] at hy
      obtain rfl : (e.1, kV e.2) = y := Option.some.inj hy
      refine ⟨e, rfl, b, _, #[en.key, en.val], 0, rfl, hg, rfl, rfl, .cons (keyIs_rel ?_) (.cons ?_ .nil)⟩
      · rw [show e.1 = v.1 from r1]
        exact k1
      · rw [k2]
        exact r2
  have hob : (h'.push { cls := .type "list", data := .seq (as.map Value.ref).toArray }).get? h'.objs.size = some (seqObj "list" (as.map Value.ref).toArray 0) := Heap.get?_push_size _ rfl
  generalize hh2 : h'.push { cls := .type "list", data := .seq (as.map Value.ref).toArray } = h2 at hob ⊢
  have ka : ∀ b o, h'.get? b = some o → h2.get? b = some o := fun b o e => by
    rw [← hh2]
    exact Heap.get?_push_of_some _ e
  have ne0 : ∀ b o, h'.get? b = some o → b ≠ h'.objs.size := fun b o e => Nat.ne_of_lt (Heap.lt_size e)
  have at_ : ∀ v ∈ as.map Value.ref, ∃ e : Key × Key, e ∈ kvs ∧ IsT h' v [e.1, e.2] := by
    intro v hv
    obtain ⟨b, hb, rfl⟩ := List.mem_map.mp hv
    obtain ⟨j, hj⟩ := List.mem_iff_getElem?.mp hb
    obtain ⟨e, he, x⟩ := pr j b hj
    exact ⟨e, List.mem_of_getElem? he, x⟩
  refine wpAny_call_entry PyProof.Rows.slot_list_sort ⟨_, hob, rfl⟩ PyProof.Rows.entry_list_sort
    (list_sort_ord (s := { s with heap := h2, toks := tk }) (lex_swo (plc h' sh)) hob (by rw [List.length_map]; omega) (fun h2' => ?_) fun out o1 o2 => ⟨.none, rfl, ?_⟩) (PyProof.Rows.args_list_sort _)
  · refine sortable (s := { s with heap := h2, toks := tk }) h2' (fun v hv => ?_) fun o e => ?_
    · obtain ⟨e, he, x⟩ := at_ v hv
      exact ⟨_, x, x.keeps fun b o k _ => ka b o k, hsh e he⟩
    · have e' : some o = some (seqObj "list" (as.map Value.ref).toArray 0) := e.symm.trans hob
      cases e'
      intro c
      exact absurd (Value.type.inj c) (by decide)
  · show EP X pins σ Q (.ref h'.objs.size) { s with heap := sortedHeap h2 h'.objs.size (as.map Value.ref) out.toArray, toks := tk }
    -- the pairs with what they hold
    have ex : ∃ xs : List (Addr × List Key), xs.map (·.1) = as ∧ xs.map (·.2) = kvs.map (fun e => [e.1, e.2]) ∧ ∀ x ∈ xs, IsT h' (.ref x.1) x.2 := by
      refine ⟨as.zip (kvs.map fun e => [e.1, e.2]), ?_, ?_, fun x hx => ?_⟩
      · exact List.map_fst_zip (by rw [List.length_map]; omega)
      · exact List.map_snd_zip (by rw [List.length_map]; omega)
      · obtain ⟨j, hj⟩ := List.mem_iff_getElem?.mp hx
        obtain ⟨j1, j2⟩ := List.getElem?_zip_eq_some.mp hj
        obtain ⟨e, he, t⟩ := pr j x.1 j1
        rw [List.getElem?_map, he] at j2
        rw [← show [e.1, e.2] = x.2 from Option.some.inj j2]
        exact t
    obtain ⟨xs, ex1, ex2, ist⟩ := ex
    obtain ⟨ps, pp, ep'⟩ := perm_lift (fun x : Addr × List Key => Value.ref x.1) o2.perm xs (by rw [← ex1, List.map_map]; rfl)
    have spx : ∀ x ∈ xs, Shp sh x.2 := fun x hx => by
      have := List.mem_map_of_mem (f := Prod.snd) hx
      rw [ex2] at this
      obtain ⟨e, he, e2⟩ := List.mem_map.mp this
      rw [← e2]
      exact hsh e he
    have pw : ps.Pairwise fun x y => ltK y.2 x.2 = false := by
      rw [← ep'] at o1
      refine List.Pairwise.imp_of_mem (fun {x y} hx' hy' e => ?_) (List.pairwise_map.mp o1)
      have mx := pp.mem_iff.mp hx'
      have my := pp.mem_iff.mp hy'
      have e : lexLt itemOrd (plc h' sh (.ref y.1)) (plc h' sh (.ref x.1)) = false := e
      rw [(ist x mx).plc (spx x mx), (ist y my).plc (spx y my)] at e
      exact e
    have kF : ∀ b o, b ≠ h'.objs.size → h2.get? b = some o → (sortedHeap h2 h'.objs.size (as.map Value.ref) out.toArray).get? b = some o := fun b o hb e => (PyProof.Rows.sortedHeap_old hb (Heap.lt_size e)).trans e
    have kS : ∀ b o, s.heap.get? b = some o → (sortedHeap h2 h'.objs.size (as.map Value.ref) out.toArray).get? b = some o := fun b o e => kF b o (ne0 _ _ (hk b o e)) (ka b o (hk b o e))
    obtain ⟨eF, heF⟩ := PyProof.Rows.sortedHeap_at (vs := as.map Value.ref) (out := out.toArray) hob
    have I1 : Inv X pins σ H { s with heap := sortedHeap h2 h'.objs.size (as.map Value.ref) out.toArray, toks := tk } := I.kept (t' := tk) kS
    have hn0 : H h'.objs.size = none := I.hok.fresh (Nat.le_of_lt hlt)
    have hlen : (ps.map fun z => V.ref z.1).length ≤ sizeLine := by
      have e := pp.length_eq
      have e2 : xs.length = as.length := by rw [← ex1, List.length_map]
      rw [List.length_map]
      omega
    have I2 : Inv X pins σ (L2.upd H h'.objs.size (.lst (ps.map fun z => V.ref z.1))) { s with heap := sortedHeap h2 h'.objs.size (as.map Value.ref) out.toArray, toks := tk } :=
      I1.take (t' := tk) (fun b ob _ e => e) (I.fpOk (Nat.le_of_lt hlt) hn0) ⟨hlen, out, eF, by rw [← ep']; exact vals_ref ps, heF⟩
    obtain ⟨H2, I3, g, qt⟩ := DX.takeT (P := fun b vs => ∃ x ∈ xs, x.1 = b ∧ vs = x.2.map kV) I as _ I2 nd fun b hb => by
      rw [← ex1] at hb
      obtain ⟨x, hx', rfl⟩ := List.mem_map.mp hb
      have hb' : x.1 ∈ as := by
        rw [← ex1]
        exact List.mem_map_of_mem hx'
      have hbl : s.heap.objs.size ≤ x.1 := Nat.le_of_lt (made.above _ hb')
      obtain ⟨a', o', us, n', e', ho', hc', hd', rv⟩ := ist x hx'
      obtain rfl : x.1 = a' := Value.ref.inj e'
      have len2 : (x.2.map kV).length ≤ sizeLine := by
        have hm := List.mem_map_of_mem (f := Prod.snd) hx'
        rw [ex2] at hm
        obtain ⟨e, _, e2⟩ := List.mem_map.mp hm
        rw [← e2, sizeLine_eq]
        show 2 ≤ _
        omega
      refine ⟨hbl, ?_, x.2.map kV, ⟨x, hx', rfl, rfl⟩, fun H3 => ⟨len2, us.toList, rv, o', kF _ _ (ne0 _ _ ho') (ka _ _ ho'), hc', n', by rw [hd']⟩⟩
      rw [upd_ne (ne0 _ _ ho')]
      exact I.hok.fresh hbl
    refine ⟨.ref h'.objs.size, H2, I3, rfl, q H2 _ ps (fun b o e => g b o (by rw [upd_ne (ne_of_none e hn0)]; exact e)) ?_ pw hn0 (g _ _ upd_same) fun z hz => ?_⟩
    · rw [← ex2]
      exact pp.map _
    · have mz := pp.mem_iff.mp hz
      obtain ⟨vs', ⟨x, hx', e1, rfl⟩, hH⟩ := qt z.1 (by rw [← ex1]; exact List.mem_map_of_mem mz)
      -- one address, one tuple
      have ex : x = z := by
        obtain ⟨i, hi⟩ := List.mem_iff_getElem?.mp hx'
        obtain ⟨j, hj⟩ := List.mem_iff_getElem?.mp mz
        have hi' : as[i]? = some x.1 := by rw [← ex1, List.getElem?_map, hi]; rfl
        have hj' : as[j]? = some z.1 := by rw [← ex1, List.getElem?_map, hj]; rfl
        have : i = j := (List.getElem?_inj (List.getElem?_eq_some_iff.mp hi').1 nd).mp (by rw [hi', hj', e1])
        subst this
        rw [hi] at hj
        exact Option.some.inj hj
      rw [← ex]
      rw [← ex] at hH
      exact hH
end
end Qst
set_option Elab.async false
set_option linter.all false
set_option maxRecDepth 100000
set_option maxHeartbeats 4000000
/-! def f(self, **d) called with keywords; instances made so. -/
namespace Qkw
open PySem PySem.Spec PyProof.Rows L2 Qh StX PySem.W
/-- one name more -/
theorem put_one {prog : Program} {w : World} {A : Around} {E : Value → Shared → Prop} {s : Shared} {a : Addr} {es : List DictEntry} {n : Nat} {k : Str} {v : Value} {Q : Unit → Shared → Prop} (ho : s.heap.get? a = some (dictOf es n))
    (new : ∀ e ∈ es, e.key.isStr k = false) (plain : ∀ e ∈ es, e.refKey = false)
    (h : ∀ h', h'.get? a = some (dictOf (es ++ [⟨PyData.keyHash w.params k, .str k s.toks, v⟩]) (n + 1)) → (∀ b, b ≠ a → h'.get? b = s.heap.get? b) → h'.objs.size = s.heap.objs.size → Q () { s with heap := h', toks := s.toks + 1 }) :
    wpAny (model prog w) A (nsSet a k v) Q E s := by
  have e1 : es.any (·.key.isStr k) = false := List.any_eq_false.mpr fun e he => by
    rw [new e he]
    exact Bool.false_ne_true
  have e2 : es.any (·.refKey) = false := List.any_eq_false.mpr fun e he => by
    rw [plain e he]
    exact Bool.false_ne_true
  have c : aRefKeyMayBeTheName k es.toArray = false := by
    rw [aRefKeyMayBeTheName_at, ← Array.any_toList, ← Array.any_toList]
    show (!es.any (·.key.isStr k) && es.any (·.refKey)) = false
    rw [e2, Bool.and_false]
  have put : Obj.putName k (PyData.keyHash w.params k) (.str k s.toks) v (dictOf es n) = dictOf (es ++ [⟨PyData.keyHash w.params k, .str k s.toks, v⟩]) (n + 1) := by
    rw [putName_dict, putL_new new]
    show dictOf _ (if es.any (·.key.isStr k) then n else n + 1) = _
    rw [e1, if_neg Bool.false_ne_true]
  unfold nsSet
  refine wpAny_bind (wpAny_bind (wpAny_askSetting (wpAny_pure (wpAny_bind (wpAny_mkText (wpAny_bind (wpAny_loadPart ho ?_)))))))
  dsimp only
  rw [c]
  refine wpAny_updatePart ho ?_
  show Q () { s with heap := s.heap.update a (Obj.putName k (PyData.keyHash w.params k) (.str k s.toks) v), toks := s.toks + 1 }
  refine h _ ?_ (fun b hb => Heap.get?_update_ne _ _ _ _ hb) (Heap.size_update _ _ _)
  rw [← put]
  exact Heap.get?_update_self _ ho (by rw [put]; rfl)
theorem put_all {prog : Program} {w : World} {A : Around} {E : Value → Shared → Prop} {a : Addr} {Q : PUnit → Shared → Prop} : ∀ (ex : List (Str × Value)) (s : Shared) (es : List DictEntry) (n : Nat), s.heap.get? a = some (dictOf es n) →
    (∀ e ∈ es, ∀ x ∈ ex, e.key.isStr x.1 = false) → (∀ e ∈ es, e.refKey = false) → (ex.map (·.1)).Nodup →
    (∀ h', h'.get? a = some (dictOf (es ++ kwEs w.params s.toks ex) (n + ex.length)) → (∀ b, b ≠ a → h'.get? b = s.heap.get? b) → h'.objs.size = s.heap.objs.size → Q ⟨⟩ { s with heap := h', toks := s.toks + ex.length }) →
    wpAny (model prog w) A (forIn ex PUnit.unit fun x _ => (nsSet a x.1 x.2 >>= fun _ => pure (ForInStep.yield PUnit.unit))) Q E s
  | [], s, es, n, ho, _, _, _, h => by
    rw [List.forIn_nil]
    refine wpAny_pure (h s.heap ?_ (fun _ _ => rfl) rfl)
    show _ = some (dictOf (es ++ []) n)
    rw [List.append_nil]
    exact ho
  | x :: r, s, es, n, ho, new, plain, nd, h => by
    obtain ⟨nd1, nd2⟩ := List.nodup_cons.mp (show (x.1 :: r.map (·.1)).Nodup from nd)
    rw [List.forIn_cons]
    refine wpAny_bind (wpAny_bind (put_one ho (fun e he => new e he x List.mem_cons_self) plain fun h' g1 g2 g3 => wpAny_pure ?_))
    refine put_all r { s with heap := h', toks := s.toks + 1 } _ _ g1 (fun e he y hy => ?_) (fun e he => ?_) nd2 fun h'' k1 k2 k3 => ?_
    · rcases List.mem_append.mp he with he | he
      · exact new e he y (List.mem_cons_of_mem _ hy)
      · rw [List.mem_singleton.mp he]
        exact beq_eq_false_iff_ne.mpr fun z => nd1 (by rw [z]; exact List.mem_map_of_mem hy)
    · rcases List.mem_append.mp he with he | he
      · exact plain e he
      · rw [List.mem_singleton.mp he]
        rfl
    · rw [List.append_assoc] at k1
      have t1 : s.toks + 1 + r.length = s.toks + (r.length + 1) := by omega
      have t2 : n + 1 + r.length = n + (r.length + 1) := by omega
      show Q ⟨⟩ { s with heap := h'', toks := s.toks + 1 + r.length }
      rw [t1]
      rw [t2] at k1
      exact h h'' k1 (fun b hb => (k2 b hb).trans (g2 b hb)) (k3.trans g3)
/-- the pairs of a call's keywords -/
def kwKvs (ks : List Str) (zs : List V) : List (Key × V) := (ks.map Sum.inr).zip zs
theorem kw_kv : ∀ {ks : List Str} {zs : List V} {us : List Value}, Vals zs us → KV (kwKvs ks zs) ((ks.map Sum.inr).zip us)
  | [], _, _, _ => .nil
  | _ :: _, _, _, .nil => .nil
  | k :: ks, _, _, .cons r t => .cons ⟨rfl, r⟩ (kw_kv (ks := ks) t)
theorem kw_pairs {P : Program} {w : World} : ∀ (ks : List Str) (us : List Value) (t : Tok), Pairs (mixKind P w) (kwEs w.params t (ks.zip us)) ((ks.map Sum.inr).zip us)
  | [], _, _ => .nil
  | _ :: _, [], _ => .nil
  | k :: ks, u :: us, t => .cons (keyIs_str k t) rfl (kw_pairs ks us (t + 1))
theorem zip_keys {α β : Type} : ∀ (ks : List α) (us : List β), us.length = ks.length → (ks.zip us).map (·.1) = ks
  | [], _, _ => rfl
  | k :: ks, [], h => by simp at h
  | k :: ks, u :: us, h => by
    show k :: (ks.zip us).map (·.1) = _
    rw [zip_keys ks us (by simpa using h)]
theorem env0_at {P : Program} {w : World} {K : PySem.W.Frag} {mg : Str → Option Value} {base : Heap} {A : Around} {outer : List Env} {s : Shared} {H : Hp} {h' : Heap} {t : Nat} {u : HO} (e0 : Env0 P w K mg base A outer s H) (kp : ∀ b o, s.heap.get? b = some o → h'.get? b = some o) (sz : h'.objs.size = s.heap.objs.size + 1)
    (new : ObjOk P w (L2.upd H s.heap.objs.size u) h' s.heap.objs.size u) : Env0 P w K mg base A outer { s with heap := h', toks := t } (L2.upd H s.heap.objs.size u) := by
  refine ⟨e0.frames, e0.mod, fun b x e => ⟨kp b x (e0.bs b x e).1, ?_⟩, ?_, Heap.FunFrames.of_keeps (fun b x e _ => ⟨x, kp b x e, rfl⟩) e0.funs, fun b hb => ?_, e0.hok.laid kp (Nat.le_refl _) new, e0.bare⟩
  · rw [upd_ne (Nat.ne_of_lt (Heap.lt_size (e0.bs b x e).1))]
    exact (e0.bs b x e).2
  · show base.objs.size ≤ h'.objs.size
    rw [sz]
    exact Nat.le_succ_of_le e0.bsz
  · obtain ⟨_, x, hx, _⟩ := e0.funs.mem hb
    rw [upd_ne (Nat.ne_of_lt (Heap.lt_size hx))]
    exact e0.frf b hb
/-- the promise of such a def, called with the keywords ks -/
def FnRW (P : Program) (w : World) (K : PySem.W.Frag) (mg : Str → Option Value) (base : Heap) (CX : CXT) (k : Nat) (f : Addr) (ks : List Str) (sp : Sp) : Prop :=
  ∀ (A : Around) (outer : List Env) (s : Shared) (H : Hp) (u : Value) (us : List Value) (x : V) (zs : List V) (Q : VK) (E : XK), Room k A → Env0 P w K mg base A outer s H → RelV x u → Vals zs us → zs.length = ks.length → sp (x :: zs) H Q E →
    codeAny (model P w) A (.call (.ref f) ⟨[u], ks.zip us⟩) (CR CX outer P w H s Q E) s
section
variable {CX : CXT} {P : Program} {w : World} {K : PySem.W.Frag} {mg : Str → Option Value} {base : Heap} {k : Nat} {f : Addr} {name qual : Str} {params : Arguments} {body : List Stmt} {scope : Scope} {dV kV doc pm cdv ct oc : Value} {an od : Option Addr}
  {osl : Array (Option Value)} {N : List Str} {sp : Sp}
/-- what is asked of a call with the keywords ks -/
def spKw (ks : List Str) (sp : Sp) : Sp := fun vs H Q E => ∃ x zs, vs = x :: zs ∧ zs.length = ks.length ∧ ∀ p, H p = Option.none → sp [x, V.ref p] (L2.upd H p (.dK (kwKvs ks zs))) Q E
theorem fn_kw {p1 pk : Str} {ks : List Str} (nd : ks.Nodup) (few : ks.length ≤ 1000) (lk : K.lookup f = some ⟨oc, od, .func (PySem.W.fnOf name qual params body scope dV kV doc pm an cdv ct), osl⟩) (hcd : PySem.W.codeIn K cdv qual = true) (S : FnScope N [p1, pk] scope) (hCX : CXUp CX)
    (hb : ∀ (u : Value) (us : List Value), us.length = ks.length → bindArgs (PySem.W.fnOf name qual params body scope dV kV doc pm an cdv ct) ⟨[u], ks.zip us⟩ =
      ((alloc ({ cls := .type "dict", data := .dict #[] } : Obj) : Sem Addr) >>= fun d => forIn (ks.zip us) PUnit.unit (fun x _ => (nsSet d x.1 x.2 >>= fun _ => pure (ForInStep.yield PUnit.unit))) >>= fun _ => pure [(p1, u), (pk, Value.ref d)]))
    (hbody : ∀ (A : Around) (outer : List Env) (s : Shared) (H : Hp) (vs : List V) (Q : VK) (E : XK), Room k (A.deeper (envOfC qual scope s.heap.objs.size f cdv)) → sp vs H Q E →
      ∃ t, PSs (cxOf CX P w K mg base N qual scope f cdv A outer s H E) body t ∧ t { nx := fun _ H' => Q .non H', rt := Q } (start N vs) H) :
    FnRW P w K mg base CX (k + 1) f ks (spKw ks sp) := by
  intro A outer s H u us x zs Q E hr e0 rx rz hl hsp
  obtain ⟨x', zs', ev, _, want⟩ := hsp
  obtain ⟨rfl, rfl⟩ := List.cons.inj ev
  have lu : us.length = ks.length := by rw [← rz.length]; exact hl
  have free : H s.heap.objs.size = Option.none := e0.hok.fresh (Nat.le_refl _)
  refine run_bnd (ps := [p1, pk]) lk hcd S hr e0 (G := fun xs H2 => ∃ p, H p = Option.none ∧ xs = [x, V.ref p] ∧ H2 = L2.upd H p (.dK (kwKvs ks zs))) (fun A' Ex Q' h => ?_) ?_
  · rw [hb u us lu]
    refine wpAny_bind (wpAny_alloc ?_)
    refine wpAny_bind (put_all (ks.zip us) { s with heap := s.heap.push { cls := .type "dict", data := .dict #[] } } [] 0 (Heap.get?_push_size _ rfl) (fun e he => nomatch he) (fun e he => nomatch he) (by rw [zip_keys ks us lu]; exact nd) fun h' g1 g2 g3 => wpAny_pure ?_)
    rw [List.nil_append, Nat.zero_add] at g1
    have kp : ∀ b o, s.heap.get? b = some o → h'.get? b = some o := fun b o e => by
      rw [g2 b (Nat.ne_of_lt (Heap.lt_size e))]
      exact Heap.get?_push_of_some _ e
    have nr : ((((ks.map Sum.inr : List Key)).zip us).map (·.1)).Nodup := by
      rw [zip_keys (ks.map Sum.inr : List Key) us (by rw [List.length_map]; exact lu)]
      exact List.Pairwise.map _ (fun a b e z => e (Sum.inr.inj z)) nd
    have new : ObjOk P w (L2.upd H s.heap.objs.size (.dK (kwKvs ks zs))) h' s.heap.objs.size (.dK (kwKvs ks zs)) := by
      refine ⟨?_, beq_eq_false_iff_ne.mpr (Ne.symm (Nat.ne_of_lt (env0_big e0))), (ks.map Sum.inr).zip us, kw_kv rz, ?_⟩
      · unfold kwKvs
        rw [List.length_zip, List.length_map]
        exact Nat.le_trans (Nat.min_le_left _ _) (Nat.le_trans few (by decide))
      · refine ⟨_, (kwEs w.params s.toks (ks.zip us)).toArray, _, g1, ⟨rfl, rfl, rfl⟩, rfl, fun e he => ?_, by simpa using kw_pairs ks us s.toks, nr⟩
        obtain ⟨kk, u', hk, hh⟩ := kwEs_key _ _ e (by simpa using he)
        exact ⟨.inr kk, by rw [hk]; exact keyIs_str kk u', hh.trans rfl⟩
    have e1 := env0_at (t := s.toks + (ks.zip us).length) e0 kp (by rw [g3, Heap.size_push]) new
    have un : Un (frs outer) [] H (L2.upd H s.heap.objs.size (.dK (kwKvs ks zs))) s.heap h' := Un.laid kp (Nat.le_refl _) free
    exact h { s with heap := h', toks := s.toks + (ks.zip us).length } _ [x, V.ref s.heap.objs.size] [u, Value.ref s.heap.objs.size] e1 un rfl (fun e s' => hCX outer s H _ _ E e s' un kp rfl) (.cons rx (.cons rfl .nil)) rfl ⟨_, free, rfl, rfl⟩
  · rintro s2 H2 xs ⟨p, hp, rfl, rfl⟩ hr'
    exact hbody A outer s2 _ _ Q E hr' (want p hp)
end
end Qkw
namespace Qkw
open PySem PySem.Spec PyProof.Rows L2 Qh StX PySem.W Qi
/-- C(k = v, ..) -/
def tMakeW (C : Addr) (sp : Sp) (E : L2.St → XK) (tk : TA) : TE := fun σ H Q => tk σ H fun zs H2 => ∀ x dx, H2 x = Option.none → H2 dx = Option.none → dx ≠ x →
  sp (V.ref x :: zs) (L2.upd (L2.upd H2 dx (.own x)) x (.ins C dx [])) (fun v H3 => v = .non ∧ Q (.ref x) H3) (E σ)
section
variable {X : Cx} {W : WX} {k : Nat} {f C : Addr} {sp : Sp} {x : Str} {ks : List Str} {kws : List Keyword} {tkw : TA} {p pos : Pos}
theorem run_makeW {E : XK} {pins : List (Addr × Obj)} {σ : L2.St} {H : Hp} {s : Shared} {Q : VK} {us : List Value} {zs : List V} (M : Mk X.K C f) (F : FnRW X.prog X.w X.K X.mg X.base (L2.CX X.prog X.w) k f ks sp) (hr : Room (k + 1) X.A)
    (hx : ∀ (H2 : Hp) (s2 : Shared) (er : Value) (s' : Shared), Inv X pins σ H2 s2 → L2.CX X.prog X.w X.stack H2 s2 E er s' → X.xe er s') (I : Inv X pins σ H s) (r : Vals zs us) (hl : zs.length = ks.length)
    (h : ∀ x dx, H x = Option.none → H dx = Option.none → dx ≠ x → sp (V.ref x :: zs) (L2.upd (L2.upd H dx (.own x)) x (.ins C dx [])) (fun v H2 => v = .non ∧ Q (.ref x) H2) E) :
    wpAny (model X.prog X.w) X.A (call (.ref C) [] (ks.zip us)) (EP X pins σ Q) X.xe s := by
  have want := h (s.heap.objs.size + 1) s.heap.objs.size (I.hok.fresh (Nat.le_succ _)) (I.hok.fresh (Nat.le_refl _)) (Nat.ne_of_lt (Nat.lt_succ_self _))
  have J := Inv.made (C := C) I
  refine wpAny_call (make_map (f := f) I.kIn M.makes M.init (beq_iff_eq.mp M.fn) (codeAny_mono (F _ X.stack _ _ (Value.ref (s.heap.objs.size + 1)) us (V.ref (s.heap.objs.size + 1)) zs _ E (hr.make C [] (ks.zip us)) (J.env0.make C [] (ks.zip us)) rfl r hl want) ?_))
  rintro (er | fl) s' hq
  · exact hx _ _ er s' J hq
  · cases fl with
    | next => exact hq.elim
    | brk => exact hq.elim
    | cont => exact hq.elim
    | ret v' =>
      obtain ⟨v, H2, J2, rv, ev, q⟩ := J.after hq
      subst ev
      exact ⟨rv, .ref (s.heap.objs.size + 1), H2, J2, rfl, q⟩
/-- c(k = v, ..), the class held in the i-th slot -/
def tMakeWL (i : Nat) (C : Addr) (sp : Sp) (E : L2.St → XK) (tk : TA) : TE := fun σ H Q => σ[i]? = some (some (.ref C)) ∧ tMakeW C sp E tk σ H Q
theorem pe_makeWL {i : Nat} (M : Mk X.K C f) (F : FnRW X.prog X.w X.K X.mg X.base (L2.CX X.prog X.w) k f ks sp) (hr : Room (k + 1) X.A) (tk : Takes X W) (hN : X.N[i]? = some x) (hv : Vis X.env.scope x) (hkw : PK X kws tkw) (hdb : (x == ("__debug__" : Str)) = false := by decide) (hcd : (x == ("__classdict__" : Str)) = false := by decide)
    (hall : (backToKw pos (keywordEach kws X.env)).all (·.1.isSome) = true := by rfl) (hks : (backToKw pos (keywordEach kws X.env)).filterMap (·.1) = ks := by rfl)
    (hpl : ((backTo pos (starEach [] X.env)).any (·.1) || (backToKw pos (keywordEach kws X.env)).any (·.1.isNone)) = false := by rfl) :
    PE X (.Call (.Name x p) [] kws pos) (tMakeWL i C sp (WE W) fun σ H R => tkw σ H fun zs H2 => zs.length = ks.length ∧ R zs H2) := by
  constructor
  rintro pins s σ H Q I ⟨hs, h⟩
  refine wpAny_Call_Name_kw (thn ((pe_var (pos := p) hN hv hdb hcd).run pins s σ H (fun v H1 => v = .ref C ∧ H1 = H) I ⟨.ref C, hs, rfl, rfl⟩) fun u s1 ⟨v, H1, I1, r1, q1⟩ => ?_)
  obtain ⟨rfl, rfl⟩ := q1
  cases r1
  refine PySem.W.callWith_KW0 (h₀ := X.base) I1.ok.mod.kin M.kp hall ?_ hpl
  refine thn (hkw.run pos pins s1 σ _ _ I1 h) ?_
  rintro ws s2 ⟨zs, H2, I2, rz, hl, q2⟩
  refine ⟨I2.kIn, ?_⟩
  rw [hks]
  exact run_makeW M F hr (fun H3 s3 er s' J c => passAt tk σ pins H3 s3 er s' J c) I2 rz hl q2
end
end Qkw
set_option Elab.async false
set_option linter.all false
set_option maxRecDepth 100000
set_option maxHeartbeats 4000000
/-! C.m(..) of a classmethod, where errors may be wished for. -/
namespace Qcm
open PySem PySem.Spec PyProof.Rows L2 Qh Qi ClX
/-- C.m(e, ..) -/
def tCMethT (C : Addr) (sp : Sp) (E : L2.St → XK) (ta : TE) (t : TA) : TE := fun σ H Q => ta σ H fun x H1 => x = .ref C ∧ t σ H1 fun vs H2 => sp (.ref C :: vs) H2 Q (E σ)
section
variable {X : Cx} {W : WX} {k : Nat} {C p g : Addr} {mc : Value} {sp : Sp} {o e : Expr} {es : List Expr} {m : Str} {pos apos : Pos} {ta : TE} {t : TA} {pl : Sem Bool}
theorem run_cmT {pins : List (Addr × Obj)} {σ : L2.St} {H : Hp} {s : Shared} {q : Addr} {E : XK} {Q : VK} {us : List Value} {vs : List V} (F : FnR X.prog X.w X.K X.mg X.base (L2.CX X.prog X.w) k g sp) (hr : Room k X.A) (hx : ∀ er s', L2.CX X.prog X.w X.stack H s E er s' → X.xe er s')
    (I : Inv X ((q, PySem.W.methodObj (.ref g) (.ref C)) :: pins) σ H s) (r : Vals vs us) (h : sp (.ref C :: vs) H Q E) : wpAny (model X.prog X.w) X.A (call (.ref q) us) (EP X pins σ Q) X.xe s := by
  refine thn (Q := EP X ((q, PySem.W.methodObj (.ref g) (.ref C)) :: pins) σ Q) (wpAny_call (PySem.W.method_call (pin_at I) (codeAny_mono (F X.A X.stack s H (.ref C :: us) (.ref C :: vs) Q E hr I.env0 (.cons rfl r) h) fun r s' hq => ?_))) fun _ _ y => unpinE y
  cases r with
  | error e => exact hx e s' hq
  | ok fl =>
    cases fl with
    | next => exact hq.elim
    | brk => exact hq.elim
    | cont => exact hq.elim
    | ret v' => exact I.after hq
theorem pe_cmethT (he : PE X o ta) (r : CRead X.K C mc) (c : CMet X.K C mc m p g) (F : FnR X.prog X.w X.K X.mg X.base (L2.CX X.prog X.w) k g sp) (hr : Room k X.A) (tk : Takes X W) (ha : PA X (e :: es) t)
    (hst : starEach (e :: es) X.env = (false, eval e X.env) :: starEach es X.env := by rfl) (hpl : (backTo pos (starEach es X.env)).any (·.1) = false := by rfl)
    (ht : eval (.Call (.Attribute o m apos) (e :: es) [] pos) X.env = (do
      let ov ← eval o X.env
      standAt apos.atName
      let (f, first) ← holding [ov] (getMethod ov m pl)
      callWith pos f first (backTo pos (starEach (e :: es) X.env)) (backToKw pos (keywordEach [] X.env))) := by rfl) :
    PE X (.Call (.Attribute o m apos) (e :: es) [] pos) (tCMethT C sp (WE W) ta t) := by
  constructor
  intro pins s σ H Q I h
  refine PySem.W.methodCall_KW (pl := pl) (thn (he.run pins s σ H _ I h) ?_) ht
  rintro u s1 ⟨x, H1, I1, rx, rfl, q⟩
  obtain rfl : u = Value.ref C := rx
  refine getmethcm_ok I1 r c fun s2 I2 => ?_
  refine callwith_cm I2 (base_none I1 (Nat.le_refl _)) c.fi (thn (ha.run pos _ s2 σ H1 _ I2 q) fun us s3 ⟨vs, H2, I3, rv, q2⟩ => ⟨⟨pin_at I3, I3.kIn⟩, ?_⟩) hst hpl
  exact run_cmT F hr (fun er s' z => passAt tk σ _ H2 s3 er s' I3 z) I3 rv q2
end
end Qcm
set_option Elab.async false
set_option linter.all false
set_option maxRecDepth 100000
set_option maxHeartbeats 4000000
/-! dicts whose keys are ints, texts, None, truths and tuples of such, by what their keys are: a new key, len, the pairs in turn. -/
namespace Qmd
open PySem PySem.Spec PyProof.Rows L2
section
variable {prog : Program} {w : World} {A : Around} {E : Value → Shared → Prop} {s : Shared}
abbrev KeyAt (h : Heap) (k : NestedKey) (v : Value) : Prop := NestedIs h k v ∧ k.depth ≤ 8
theorem asked {k k' : NestedKey} {u v : Value} {Q : Bool → Shared → Prop} (hu : A.units + 8 < cLine) (hx : KeyAt s.heap k' u) (hk : KeyAt s.heap k v) (ne : k' ≠ k) (h : Q false s) : wpAny (model prog w) A (eqBool u v) Q E s := by
  have e : NestedKey.beq k' k = false := by rw [← NestedKey.decide_eq]; exact decide_eq_false ne
  refine eqAt_key k' k A s _ _ hx.1 hk.1 (by have := hx.2; omega) _ _ _ _ ?_
  rw [e]
  exact h
theorem len_raw {d : Addr} {arr : Array DictEntry} {ep : Nat} {Q : Value → Shared → Prop} (hd : (d == sysModules) = false) (hm : s.heap.DictRaw d arr ep) (hfit : (arr.size : Int) < 2 ^ 63)
    (h : Q (.int arr.size (s.toks + 1)) { s with toks := s.toks + 1 + 1 }) : wpAny (model prog w) A (call (.builtin "len") [.ref d]) Q E s := by
  refine Calls.call_function_entry kind_len plain_len entry_len (args_len1 _) ?_
  unfold Builtin.«len»
  refine wpAny_bind (m := oneArg "len" _) (wpAny_pure ?_)
  refine wpAny_bind (m := callSpecial? (.ref d) (Str.ofString "__len__")) (wpAny_callSpecial?_slot (name := Str.ofString "__len__") hm.typeIs PySem.F.slot_dict_len (call_len_raw hd hm ?_))
  refine wpAny_bind (wpAny_holding (wpAny_pure ?_))
  refine wpAny_bind (wpAny_letGo ?_)
  show wpAny _ _ (if ((arr.size : Nat) : Int) < 0 then _ else _) _ _ _
  rw [if_neg (by omega)]
  show wpAny _ _ (if ((arr.size : Nat) : Int) ≥ 2 ^ 63 then _ else _) _ _ _
  rw [if_neg (by omega)]
  exact wpAny_bind (wpAny_mkInt (wpAny_pure ⟨_, rfl, h⟩))
end
/-! ### in the hand layer -/
abbrev En := NestedKey × V × V
def EnRel (w : World) (p : En) (e : DictEntry) : Prop := e.hash = p.1.hash w ∧ RelV p.2.1 e.key ∧ RelV p.2.2 e.val
def dMP (w : World) (a : Addr) (es : List En) (h : Heap) : Prop := (a == sysModules) = false ∧ es.length ≤ sizeLine ∧ ∃ arr ep, h.DictRaw a arr ep ∧ Paired (EnRel w) es arr.toList
def dM (w : World) (a : Addr) (es : List En) : HO := .ext (dMP w a es)
inductive KeyV (H : Hp) : NestedKey → V → Prop
  | non : KeyV H .none .non
  | bl (b : Bool) : KeyV H (.num (if b = true then 1 else 0)) (.bl b)
  | int (i : Int) : KeyV H (.num i) (.int i)
  | str (x : Str) : KeyV H (.text x) (.str x)
  | tup {a : Addr} {xs : List Str} (e : H a = some (.tup (xs.map V.str))) : KeyV H (.tup (xs.map .text)) (.ref a)
theorem depth_texts : ∀ xs : List Str, NestedKey.depthAll (xs.map .text) = 0
  | [] => rfl
  | x :: xs => by
    rw [List.map_cons, NestedKey.depthAll, depth_texts xs]
    rfl
theorem texts_at {h : Heap} : ∀ {xs : List Str} {us : List Value}, Vals (xs.map V.str) us → NestedAll h (xs.map .text) us
  | [], _, .nil => .nil
  | x :: xs, _, .cons r t => by
    obtain ⟨z, rfl⟩ := (show ∃ t, _ = Value.str x t from r)
    exact .cons (.text x z) (texts_at t)
section
variable {X : Cx} {pins : List (Addr × Obj)} {σ : L2.St} {H : Hp} {s : Shared}
theorem KeyV.at {k : NestedKey} {x : V} {u : Value} (I : Inv X pins σ H s) (hk : KeyV H k x) (r : RelV x u) : KeyAt s.heap k u := by
  cases hk with
  | non =>
    cases (show u = Value.none from r)
    exact ⟨.none, by decide⟩
  | bl b =>
    cases (show u = Value.bool b from r)
    exact ⟨.bool rfl, by show 0 ≤ 8; decide⟩
  | int i =>
    obtain ⟨z, rfl⟩ := (show ∃ t, u = Value.int i t from r)
    exact ⟨.int i z, by show 0 ≤ 8; decide⟩
  | str x =>
    obtain ⟨z, rfl⟩ := (show ∃ t, u = Value.str x t from r)
    exact ⟨.text x z, by show 0 ≤ 8; decide⟩
  | @tup a xs e =>
    cases (show u = Value.ref a from r)
    obtain ⟨_, its, rv, o, h1, h2, n, h3⟩ := (show ObjOk X.prog X.w H s.heap a (.tup (xs.map V.str)) from I.hok a _ e)
    refine ⟨.tup h1 h2 h3 (texts_at (by simpa using rv)), ?_⟩
    show NestedKey.depthAll (xs.map .text) + 1 ≤ 8
    rw [depth_texts]
    decide
theorem dM_of {a : Addr} {es : List En} (I : Inv X pins σ H s) (e : H a = some (dM X.w a es)) : dMP X.w a es s.heap := (show ObjOk X.prog X.w H s.heap a (dM X.w a es) from I.hok a _ e).1
end
section
variable {X : Cx} {o i value : Expr} {td ty tv : TE} {pos pos' : Pos}
/-- len of such a dict -/
theorem call_lenM : CallR X (.builtin "len") (fun xs H Q => ∃ a es, xs = [V.ref a] ∧ H a = some (dM X.w a es) ∧ Q (.int es.length) H) := by
  intro pins s σ H xs us Q I r h
  obtain ⟨a, es, rfl, ha, q⟩ := h
  obtain ⟨u, rfl, ru⟩ := vals1 r
  cases ru
  obtain ⟨z1, z2, arr, ep, z3, z4⟩ := dM_of I ha
  have sz : arr.size = es.length := by rw [← Array.length_toList, z4.length]
  refine len_raw z1 z3 (by rw [sz]; rw [sizeLine_eq] at z2; omega) ?_
  rw [sz]
  exact ⟨.int es.length, H, I.tok _, ⟨_, rfl⟩, q⟩
/-- isinstance(d, dict) -/
theorem call_isiM : CallR X (.builtin "isinstance") (fun xs H Q => ∃ a es, xs = [V.ref a, .ty "dict"] ∧ H a = some (dM X.w a es) ∧ Q (.bl true) H) := by
  intro pins s σ H xs us Q I r h
  obtain ⟨a, es, rfl, ha, q⟩ := h
  obtain ⟨u1, u2, rfl, r1, r2⟩ := vals2 r
  cases (show u1 = Value.ref a from r1)
  cases (show u2 = Value.type "dict" from r2)
  obtain ⟨z1, z2, arr, ep, ⟨o, h1, h2, _⟩, z4⟩ := dM_of I ha
  exact PySem.W.kia_one PySem.W.kitx_dict I.kIn ⟨o, h1, h2.1⟩ (kit_ty (r := true) (by decide +kernel)) (fun z => nomatch z) fun tk => ⟨.bl true, H, I.tok tk, rfl, q⟩
end
/-! ### the pairs in turn, the dict locked -/
def Itm (w : World) (d : Addr) (o : Obj) (es : List En) : It :=
  ⟨fun i H => H d = some (.frz o (dM w d es)) ∧ i < es.length, fun i H x H' => ∃ T e, es[i]? = some e ∧ x = .ref T ∧ H T = none ∧ H' = upd H T (.tup [e.2.1, e.2.2]), fun i H => H d = some (.frz o (dM w d es)) ∧ es.length ≤ i⟩
section
variable {X : Cx} {pins : List (Addr × Obj)} {σ : L2.St} {H : Hp} {s : Shared} {d : Addr} {o : Obj}
theorem frzM {es : List En} (I : Inv X pins σ H s) (h : H d = some (.frz o (dM X.w d es))) :
    (d == sysModules) = false ∧ s.heap.get? d = some o ∧ ∃ arr ep, o.data = .dict arr ep ∧ arr.size = es.length ∧ s.heap.DictRaw d arr ep ∧ Paired (EnRel X.w) es arr.toList := by
  obtain ⟨hd, z, _⟩ := I.hok d _ h
  obtain ⟨z1, z2, arr, ep, z3, z4⟩ := z
  obtain ⟨o', ho, hx, hdt⟩ := id z3
  rw [hd] at ho
  cases ho
  exact ⟨z1, hd, arr, ep, hdt, by rw [← Array.length_toList, z4.length], z3, z4⟩
theorem paired_at {α β : Type} {F : α → β → Prop} : ∀ {l : List α} {m : List β} {i : Nat} {a : α}, Paired F l m → l[i]? = some a → ∃ b, m[i]? = some b ∧ F a b
  | _, _, 0, _, .cons r _, e => by
    cases e
    exact ⟨_, rfl, r⟩
  | _, _, i + 1, _, .cons _ t, e => paired_at (i := i) t e
end
theorem turn_itemsM {P : Program} {w : World} {K : PySem.W.Frag} {d : Addr} {o : Obj} {arr : Array DictEntry} {ep : Nat} {es : List En} {elts : List Expr} {kk : Nat} {tpos : Pos} (it : Addr) (hod : o.data = .dict arr ep) :
    Turn P w K (.Tuple elts kk tpos) (Itm w d o es) [it] it (fun i h => ∃ ok ov, IsItemIter h it d i es.length ep ok ov) where
  mem := by simp
  obj := fun i h st b hb => by
    have e : b = it := by simpa using hb
    subst e
    obtain ⟨ok, ov, e⟩ := st
    exact ⟨_, e, fun v z => nomatch z⟩
  keep := fun i h h' st k => let ⟨ok, ov, e⟩ := st; ⟨ok, ov, k it (by simp) _ e⟩
  item := by
    intro X hP hw hK hc i pins s σ H E I hf st hg
    subst hP hw hK
    obtain ⟨hd, hi⟩ := hg
    obtain ⟨hs, hgd, arr', ep', hdt, hsz, hm, pr⟩ := frzM I hd
    obtain ⟨rfl, rfl⟩ := dict_ep hod hdt
    obtain ⟨p, hp⟩ : ∃ p, es[i]? = some p := ⟨es[i], List.getElem?_eq_getElem hi⟩
    obtain ⟨en, hen, r1, r2, r3⟩ := paired_at pr hp
    obtain ⟨ok, ov, he⟩ := st
    rw [← hsz] at he
    have hlt : it < s.heap.objs.size := Heap.lt_size he
    have hia : i < arr'.size := by omega
    have ea : arr'[i] = en := by
      rw [Array.getElem?_toList, Array.getElem?_eq_getElem hia] at hen
      exact Option.some.inj hen
    refine wpAny_pyNext_items_item_raw he hm hia fun h' ho hT hz hk => ?_
    refine ⟨_, rfl, wpAny_letOwnedTupleGo_items (s := { s with heap := h' }) ho fun h'' he' sb => ?_⟩
    rw [ea] at hT
    have hT2 : h''.get? s.heap.objs.size = some { cls := .type "tuple", data := .seq #[en.key, en.val] } := (sb.2 _ (Nat.ne_of_gt hlt)).trans hT
    have new : ObjOk X.prog X.w (upd H s.heap.objs.size (.tup [p.2.1, p.2.2])) h'' s.heap.objs.size (.tup [p.2.1, p.2.2]) :=
      ⟨by show 2 ≤ sizeLine; decide, [en.key, en.val], .cons r2 (.cons r3 .nil), ⟨_, hT2, rfl, _, rfl⟩⟩
    have I1 : Inv X pins σ (upd H s.heap.objs.size (.tup [p.2.1, p.2.2])) { s with heap := h'' } :=
      I.turnedNew (t' := s.toks) (ch := [it]) (fun b ob hb e => (sb.2 b (by simpa using hb)).trans (hk b ob (by simpa using hb) e)) hf (Nat.le_refl _) new
    refine ⟨.ref s.heap.objs.size, _, I1, rfl, ⟨_, p, hp, rfl, I.hok.fresh (Nat.le_refl _), rfl⟩, ⟨arr'[i].key, arr'[i].val, ?_⟩, fun b hb => ?_⟩
    · rw [← hsz]; exact he'
    · have e : b = it := by simpa using hb
      rw [e, upd_ne (Nat.ne_of_lt hlt)]
      exact (hf it (by simp)).1
  done := by
    intro X hP hw hK hc i pins s σ H E I hf st hg
    subst hP hw hK
    obtain ⟨hd, hi⟩ := hg
    obtain ⟨f0, f1, f2, f3, f4, f5⟩ := hf it (by simp)
    obtain ⟨hs, hgd, arr', ep', hdt, hsz, hm, pr⟩ := frzM I hd
    obtain ⟨rfl, rfl⟩ := dict_ep hod hdt
    obtain ⟨ok, ov, he⟩ := st
    rw [← hsz] at he
    exact wpAny_pyNext_items_end_raw (I.ok.hd hc) he hm (by omega) fun h' eb => ⟨rfl, I.turned (t' := s.toks) (fun b ob hb e => eb b ob hb e) f0 f1 f3 f4 f5⟩
  self := fun A i s Q E st h => let ⟨_, _, e⟩ := st; PySem.W.kcp_self e h
def iItemsM (w : World) (td : TE) : TI := fun σ H R => td σ H fun x H1 => ∃ d o es, x = .ref d ∧ H1 d = some (.frz o (dM w d es)) ∧ R (Itm w d o es) H1
section
variable {X : Cx} {e : Expr} {td : TE} {apos cpos : Pos}
theorem pi_itemsM {elts : List Expr} {kk : Nat} {tpos : Pos} (he : PE X e td) (hbase : attributeBase e "items" X.env (eval e X.env) = eval e X.env := by rfl) (hline : (apos.endLine == cpos.line) = true := by rfl) :
    PI X (.Tuple elts kk tpos) (.Call (.Attribute e "items" apos) [] [] cpos) (iItemsM X.w td) := by
  refine ⟨fun pins s σ H R I h => ?_⟩
  refine wpAny_Call_method (T := "dict") (id := "dict.items") hbase rfl hline PySem.F.plainAttrs_dict PySem.F.slot_dict_items PySem.F.type_dict_items (thn (he.run pins s σ H _ I h) fun u s1 ⟨x, H1, I1, rx, d, o, es, ex, hd, q⟩ => ?_)
  subst ex
  obtain rfl : u = Value.ref d := rx
  obtain ⟨hs, hgd, arr, ep, hdt, hsz, hm, pr⟩ := frzM I1 hd
  refine ⟨hm.typeIs, fun a e => by cases e; exact let ⟨o, ho, hc, _⟩ := hm; ⟨o, ho, hc.2.1⟩, ?_⟩
  have I2 : Inv X pins σ H1 { s1 with heap := s1.heap.push { cls := .type "dict_items", data := .fields #[.ref d] } } := I1.kept (t' := s1.toks) fun b ob q => Heap.get?_push_of_some _ q
  have fin : wpAny (model X.prog X.w) X.A (pyIter (.ref s1.heap.objs.size)) (PIE X pins σ (.Tuple elts kk tpos) R) X.xe { s1 with heap := s1.heap.push { cls := .type "dict_items", data := .fields #[.ref d] } } := by
    refine wpAny_pyIter_items_raw (d := d) ⟨_, Heap.get?_push_size _ rfl, rfl, rfl⟩ (hm.push _) (pi_one (tk := s1.toks) I2 _ (turn_itemsM _ hdt) ⟨.none, .none, ?_⟩ q)
    rw [← hsz]
    exact Heap.get?_push_size _ rfl
  show wpAny _ _ (callWith cpos (.builtin "dict.items") [.ref d] [] []) _ X.xe s1
  exact method_meetsIn PySem.F.slot_dict_items PySem.F.entry_dict_items rfl (PySem.evalArgs_none ⟨rfl, hm.typeIs, PySem.F.args_dict_items_1 _, _, meets_dict_items_raw d hs, ⟨⟨arr, ep, hm⟩, fin⟩⟩)
end
theorem walk_itemsM {w : World} {d : Addr} {o : Obj} {es : List En} : Walk (Itm w d o es) es.length (fun H => H d = some (.frz o (dM w d es))) (YPair (fun i => es[i]?.map fun e => e.2.1) (fun i => es[i]?.map fun e => e.2.2)) := by
  refine ⟨fun _ _ hi q => ⟨q, hi⟩, fun _ q => ⟨q, Nat.le_refl _⟩, fun i H x H' _ _ y => ?_⟩
  obtain ⟨T, e, h1, h2, h3, h4⟩ := y
  exact ⟨T, e.2.1, e.2.2, h2, h3, h4, by simp [h1], by simp [h1]⟩
end Qmd
set_option Elab.async false
set_option linter.all false
set_option maxRecDepth 100000
set_option maxHeartbeats 8000000
namespace K07.Sw
open PySem PySem.Spec PyProof.Rows L2 TL Qh Qi Ql ClX Qst Qkw Qmd
abbrev sAscP : Stmt := top 26
abbrev sInit : Stmt := inClass (top 30) 1
abbrev sOf : Stmt := inClass (top 30) 2
abbrev sResult : Stmt := inClass (top 30) 3
def kvOf (p : Str × Str) : Key × V := (.inr p.1, .str p.2)
def pairK (p : Str × Str) : List Key := [.inr p.1, .inr p.2]
inductive PairsAt (G : Hp) : List Addr → List (Str × Str) → Prop
  | nil : PairsAt G [] []
  | cons {a : Addr} {p : Str × Str} {as : List Addr} {ps : List (Str × Str)} : G a = some (.tup [.str p.1, .str p.2]) → PairsAt G as ps → PairsAt G (a :: as) (p :: ps)
theorem PairsAt.same {G G' : Hp} (s : ∀ a l, G a = some (.tup l) → G' a = some (.tup l)) : ∀ {as : List Addr} {ps : List (Str × Str)}, PairsAt G as ps → PairsAt G' as ps
  | _, _, .nil => .nil
  | _, _, .cons h t => .cons (s _ _ h) (PairsAt.same s t)
theorem PairsAt.len {G : Hp} : ∀ {as : List Addr} {ps : List (Str × Str)}, PairsAt G as ps → as.length = ps.length
  | _, _, .nil => rfl
  | _, _, .cons _ t => by rw [List.length_cons, List.length_cons, PairsAt.len t]
theorem PairsAt.at {G : Hp} : ∀ {as : List Addr} {ps : List (Str × Str)} {i : Nat} {a : Addr}, PairsAt G as ps → as[i]? = some a → ∃ p, ps[i]? = some p ∧ G a = some (.tup [.str p.1, .str p.2])
  | _, _, 0, a, .cons h t, e => by
    cases e
    exact ⟨_, rfl, h⟩
  | _, _, i + 1, a, .cons h t, e => PairsAt.at (i := i) t e
/-- a tuple of pairs of texts -/
def TupsAt (G : Hp) (D : Addr) (ps : List (Str × Str)) : Prop := ∃ as, G D = some (.tup (as.map V.ref)) ∧ PairsAt G as ps
theorem TupsAt.same {G G' : Hp} {D : Addr} {ps : List (Str × Str)} (h : TupsAt G D ps) (s : ∀ a l, G a = some (.tup l) → G' a = some (.tup l)) : TupsAt G' D ps := by
  obtain ⟨as, h1, h2⟩ := h
  exact ⟨as, s _ _ h1, h2.same s⟩
/-- the pairs of a dict in order -/
def SortP (kvs : List (Key × V)) (ps : List (Str × Str)) : Prop := (ps.map kvOf).Perm kvs ∧ ps.Pairwise (fun x y => ltK (pairK y) (pairK x) = false)
structure SwapC (K : PySem.W.Frag) (mg : Str → Option Value) (C : Addr) : Prop where
  g : mg "Swap" = some (.ref C)
  cl : Cls K C
  n1 : NoAttr K C "pairs"
  most : ∃ mc u, CRead K C mc ∧ CVal K C mc "MOST" (.int 10) u
def inSize (n : Nat) : Bool := decide ((1 : Int) ≤ (n : Int)) && decide ((n : Int) ≤ 10)
def kvWord (e : Key × V) : Bool := wordV (kV e.1) && wordV e.2
theorem kvWord_of {e : Key × V} (h : kvWord e = true) : ∃ p : Str × Str, e = kvOf p ∧ wordS p.1 = true ∧ wordS p.2 = true := by
  obtain ⟨k, v⟩ := e
  obtain ⟨h1, h2⟩ := Bool.and_eq_true_iff.mp h
  obtain ⟨y, rfl⟩ := txt_of h2
  cases k with
  | inl i => exact absurd h1 Bool.false_ne_true
  | inr x => exact ⟨(x, y), rfl, h1, h2⟩
theorem kvs_of : ∀ {kvs : List (Key × V)}, (∀ e ∈ kvs, kvWord e = true) → ∃ ps : List (Str × Str), kvs = ps.map kvOf ∧ ∀ p ∈ ps, wordS p.1 = true ∧ wordS p.2 = true
  | [], _ => ⟨[], rfl, fun _ h => nomatch h⟩
  | e :: kvs, h => by
    obtain ⟨p, rfl, h1⟩ := kvWord_of (h e List.mem_cons_self)
    obtain ⟨ps, rfl, h2⟩ := kvs_of fun z hz => h z (List.mem_cons_of_mem _ hz)
    refine ⟨p :: ps, rfl, fun z hz => ?_⟩
    rcases List.mem_cons.mp hz with rfl | hz
    · exact h1
    · exact h2 z hz
/-- the dict of any keys at a: what such a call makes of it -/
def mixE (K : PySem.W.Frag) (w : World) (CE : Addr) (v : V) (G : Hp) (E : XK) : Prop := ∃ (a : Addr) (es : List En), v = .ref a ∧ G a = some (dM w a es) ∧ (∀ e ∈ es, ∀ G', Kp a G G' → Known K G' e.2.1 ∧ Known K G' e.2.2) ∧
    (inSize es.length = false → ∀ d G', ErrStep G G' d "words" .non → E (.ref CE) (some d) G') ∧
    (inSize es.length = true → (∃ e ∈ es, (wordV e.2.1 && wordV e.2.2) = false) ∧ ∀ d G', G d = none → Kp a G G' → G' d = some (.xd [("index", .non), ("reason", .str (Str.ofString "word"))]) → E (.ref CE) (some d) G')
/-- ascending_pairs(v): v no dict, or a dict at a -/
def spAscP (K : PySem.W.Frag) (w : World) (CE : Addr) : Sp := fun vs G Q E => ∃ v, vs = [v] ∧
  (mixE K w CE v G E ∨ (∃ t, TyX K G v t ∧ PySem.W.kitOne K t (.type "dict") = some false ∧ ∀ d G', ErrStep G G' d "words" .non → E (.ref CE) (some d) G') ∨
   ∃ (a : Addr) (kvs : List (Key × V)), v = .ref a ∧ G a = some (.dK kvs) ∧ (∀ e ∈ kvs, ∀ G', Kp a G G' → Known K G' (kV e.1) ∧ Known K G' e.2) ∧
    (inSize kvs.length = false → ∀ d G', ErrStep G G' d "words" .non → E (.ref CE) (some d) G') ∧
    (inSize kvs.length = true → (¬ ∀ e ∈ kvs, kvWord e = true) → ∀ d G', G d = none → Kp a G G' → G' d = some (.xd [("index", .non), ("reason", .str (Str.ofString "word"))]) → E (.ref CE) (some d) G') ∧
    (inSize kvs.length = true → (∀ e ∈ kvs, kvWord e = true) → ∀ ps D G', SortP kvs ps → G D = none → Same G G' → TupsAt G' D ps → Q (.ref D) G'))
section
variable {P : Program} {w : World} {K : PySem.W.Frag} {mg : Str → Option Value} {base : Heap}
abbrev apN : List Str := ["pairs", "first", "second"]
theorem scAscP : FnScope apN ["pairs"] (defScope sAscP) := ⟨rfl, rfl, rfl, by decide +kernel, rfl, by decide +kernel, by decide +kernel⟩
theorem shp_pair (p : Str × Str) : Shp (fun _ => true) (pairK p) := by
  refine ⟨(fun z => nomatch z), fun i k h => ⟨fun _ => ?_, fun _ => rfl⟩⟩
  match i, h with
  | 0, h => exact ⟨p.1, (Option.some.inj h).symm⟩
  | 1, h => exact ⟨p.2, (Option.some.inj h).symm⟩
theorem ok_ascP {C CE : Addr} (D : DefIn K mg "ascending_pairs" sAscP) (B : Blt mg) (T : SwapC K mg C) (TE : ErrN P w K mg base "InvalidStep" ["reason", "index"] CE) (F_is_word : Ok P w K mg base "is_word" (defArgs sIsWord) ["value"] 2 (spIsWord K)) :
    Ok P w K mg base "ascending_pairs" (defArgs sAscP) ["pairs"] 3 (spAscP K w CE) := by
  refine D.ok scAscP (fun vs G Q E h => ?_) (fun _ _ _ _ _ _ us hl => match us, hl with | [_], _ => rfl) (fun f cdv A out t G vs Q E hr h => ?_)
  · obtain ⟨v, rfl, _⟩ := h
    rfl
  · obtain ⟨v, rfl, h⟩ := h
    rcases h with ⟨a, es, rfl, ha, hv, k1, k2⟩ | h
    · refine ⟨_, (pss_cons (ps_if (PW.pt (pw_or (pt_not (pt_val (pe_callB call_isiM (by rfl) B.n_isinstance bt_isinstance (pa_cons (pv 0) (pa_cons (pe_bltn (v := .ty "dict") (by rfl) B.n_dict bt_dict rfl) pa_nil))))) (pw_or1 (pt_not (pt_chain op_le op_le pe_int (pe_callB call_lenM (by rfl) B.n_len bt_len (pa_cons (pv 0) pa_nil)) (pe_cval (pe_glob (v := .ref C) rfl T.g rfl))))))) (pss_one (ps_raise rfl (takes_of rfl rfl rfl rfl) (pmk_errN TE (hr.mono (by decide)) (pa_cons pe_str (pa_cons pe_non pa_nil))))) pss_nil)
        (pss_cons (ps_lock (ps_for (passes_of rfl) rfl (pi_itemsM (pv 0)) (pg_tup rfl (pgs_cons (pg_name (i := 1) scAscP.nd rfl (by first | exact Or.inl rfl | exact Or.inr rfl)) (pgs_cons (pg_name (i := 2) scAscP.nd rfl (by first | exact Or.inl rfl | exact Or.inr rfl)) pgs_nil)))
          (pss_one (ps_if (PW.pt (pw_or (pt_not (pt_val (pe_own F_is_word (hr.mono (by decide)) takes0 (pa_cons (pv 1) pa_nil)))) (pw_or1 (pt_not (pt_val (pe_own F_is_word (hr.mono (by decide)) takes0 (pa_cons (pv 2) pa_nil))))))) (pss_one (ps_raise rfl (takes_of rfl rfl rfl rfl) (pmk_errN TE (hr.mono (by decide)) (pa_cons pe_str (pa_cons pe_non pa_nil))))) pss_nil))))
        (pss_one (ps_ret (pe_callTy call_tuple_of (by rfl) B.n_tuple bt_tuple (pa_cons (pe_callB (cr_sortItems rfl) (by rfl) B.n_sorted bt_sorted (pa_cons (pe_bm0 PySem.F.plainAttrs_dict PySem.F.slot_dict_items PySem.F.type_dict_items mt_items (pv 0)) pa_nil)) pa_nil)))))), ?_⟩
      have raise : ∀ (reason : Str) (i : V) (G' : Hp), (∀ d G2, ErrStep G' G2 d reason i → E (.ref CE) (some d) G2) → _ := fun reason i G' kx => errN_end (fields := ["reason", "index"]) (C := CE) (ws := [.str reason, i]) (G1 := G') (Q := fun cls d G' => E cls d G') rfl (by show 2 ≤ 1000; decide) fun d hd => kx d _ ⟨hd, Qh.Same.new hd, upd_same⟩
      refine ⟨_, rfl, _, _, rfl, ha, _, rfl, ?_⟩
      refine iteF ?_
      refine ⟨_, rfl, a, es, rfl, ha, _, _, rfl, rfl, _, rfl, ?_⟩
      have words : inSize es.length = false → _ := fun e => raise "words" .non G (k1 e)
      refine ite2 (fun h1 => ?_) (fun h1 => ?_)
      case refine_2 =>
        refine ⟨_, rfl, iteT (words ?_)⟩
        unfold inSize
        rw [Bool.eq_false_iff.mpr h1, Bool.false_and]
      obtain ⟨mc, u10, cr, cv⟩ := T.most
      refine ⟨C, mc, .int 10, u10, rfl, cr, cv, ?_⟩
      refine ⟨_, _, rfl, rfl, _, rfl, ?_⟩
      refine ite2 (fun h2 => ?_) (fun h2 => ?_)
      · refine words ?_
        have h2 : decide ((es.length : Int) ≤ 10) = false := by simpa using h2
        unfold inSize
        rw [h2, Bool.and_false]
      have h2 : decide ((es.length : Int) ≤ 10) = true := by simpa using h2
      have size : inSize es.length = true := by
        unfold inSize
        rw [h1, h2]
        rfl
      obtain ⟨⟨e0, he0, hf0⟩, k2⟩ := k2 size
      refine ⟨a, _, ha, trivial, fun od => ?_⟩
      have kp0 : Kp a G (L2.upd G a (.frz od (dM w a es))) := fun b o ne e => by
        rw [upd_ne ne]
        exact e
      refine ⟨_, rfl, a, od, es, rfl, upd_same, for_it walk_itemsM (fun i σ' G' => ∃ o1 o2, σ' = [some (.ref a), o1, o2] ∧ Kp a G G' ∧ Same (L2.upd G a (.frz od (dM w a es))) G' ∧ ∀ j e, j < i → es[j]? = some e → (wordV e.2.1 && wordV e.2.2) = true)
        ⟨none, none, rfl, kp0, Same.refl _, fun j e hj _ => absurd hj (Nat.not_lt_zero j)⟩ (fun i σ' G' _ ⟨_, _, _, _, sm, _⟩ => sm _ _ upd_same) ?_ ?_⟩
      · rintro i y σ1 G1 G2 hi ⟨o1, o2, rfl, kp, sm, hw⟩ ⟨Tp, x1, x2, rfl, hT, rfl, e1, e2⟩
        have e1 : (es[i]?.map fun e => e.2.1) = some x1 := e1
        have e2 : (es[i]?.map fun e => e.2.2) = some x2 := e2
        cases hkv : es[i]? with
        | none =>
          rw [hkv] at e1
          cases e1
        | some e =>
          rw [hkv] at e1 e2
          obtain rfl : e.2.1 = x1 := Option.some.inj e1
          obtain rfl : e.2.2 = x2 := Option.some.inj e2
          have hm := List.mem_of_getElem? hkv
          have kpT : Kp a G (L2.upd G1 Tp (.tup [e.2.1, e.2.2])) := kp.trans (Kp.same (Same.new hT))
          have smT : Same (L2.upd G a (.frz od (dM w a es))) (L2.upd G1 Tp (.tup [e.2.1, e.2.2])) := sm.trans (Same.new hT)
          have aN : ∀ {G3 : Hp} {d : Addr}, Same (L2.upd G a (.frz od (dM w a es))) G3 → G3 d = none → G d = none := fun {G3 d} s3 hd => by
            have h1 := s3.free hd
            by_cases z : d = a
            · rw [z, upd_same] at h1
              cases h1
            · rw [upd_ne z] at h1
              exact h1
          have bad : ∀ G3, Kp a G G3 → Same (L2.upd G a (.frz od (dM w a es))) G3 → _ := fun G3 kp3 sm3 => raise "word" .non G3 fun d G4 es => k2 d G4 (aN sm3 es.1) (kp3.trans (Kp.same es.2.1)) es.2.2
          refine ⟨Tp, _, rfl, SqT.of upd_same, rfl, _, _, rfl, _, _, rfl, rfl, ?_⟩
          refine ⟨_, rfl, e.2.1, rfl, (hv e hm _ kpT).1, fun G3 s3 => ⟨_, rfl, ?_⟩⟩
          have kp3 := kpT.trans (Kp.same s3)
          have sm3 := smT.trans s3
          cases w1 : wordV e.2.1 with
          | false => exact iteT (bad G3 kp3 sm3)
          | true =>
            refine iteF ⟨_, rfl, e.2.2, rfl, (hv e hm _ kp3).2, fun G4 s4 => ⟨_, rfl, ?_⟩⟩
            have kp4 := kp3.trans (Kp.same s4)
            have sm4 := sm3.trans s4
            cases w2 : wordV e.2.2 with
            | false => exact iteT (bad G4 kp4 sm4)
            | true =>
              refine iteF ⟨_, _, rfl, kp4, sm4, fun j z hj hjz => ?_⟩
              by_cases hji : j = i
              · subst hji
                rw [hkv] at hjz
                rw [← Option.some.inj hjz, w1, w2]
                rfl
              · exact hw j z (by omega) hjz
      · rintro σ1 G1 ⟨o1, o2, rfl, kp, sm, hw⟩
        obtain ⟨j, hj⟩ := List.mem_iff_getElem?.mp he0
        rw [hw j e0 (List.getElem?_eq_some_iff.mp hj).1 hj] at hf0
        cases hf0
    refine ⟨_, (pss_cons (ps_if (PW.pt (pw_or (pt_not (pt_val (pe_callB call_isi (by rfl) B.n_isinstance bt_isinstance (pa_cons (pv 0) (pa_cons (pe_bltn (v := .ty "dict") (by rfl) B.n_dict bt_dict rfl) pa_nil))))) (pw_or1 (pt_not (pt_chain op_le op_le pe_int (pe_callB call_lenD (by rfl) B.n_len bt_len (pa_cons (pv 0) pa_nil)) (pe_cval (pe_glob (v := .ref C) rfl T.g rfl))))))) (pss_one (ps_raise rfl (takes_of rfl rfl rfl rfl) (pmk_errN TE (hr.mono (by decide)) (pa_cons pe_str (pa_cons pe_non pa_nil))))) pss_nil)
      (pss_cons (ps_lock (ps_for (passes_of rfl) rfl (pi_items (pv 0)) (pg_tup rfl (pgs_cons (pg_name (i := 1) scAscP.nd rfl (by first | exact Or.inl rfl | exact Or.inr rfl)) (pgs_cons (pg_name (i := 2) scAscP.nd rfl (by first | exact Or.inl rfl | exact Or.inr rfl)) pgs_nil)))
        (pss_one (ps_if (PW.pt (pw_or (pt_not (pt_val (pe_own F_is_word (hr.mono (by decide)) takes0 (pa_cons (pv 1) pa_nil)))) (pw_or1 (pt_not (pt_val (pe_own F_is_word (hr.mono (by decide)) takes0 (pa_cons (pv 2) pa_nil))))))) (pss_one (ps_raise rfl (takes_of rfl rfl rfl rfl) (pmk_errN TE (hr.mono (by decide)) (pa_cons pe_str (pa_cons pe_non pa_nil))))) pss_nil))))
      (pss_one (ps_ret (pe_callTy call_tuple_of (by rfl) B.n_tuple bt_tuple (pa_cons (pe_callB (cr_sortItems rfl) (by rfl) B.n_sorted bt_sorted (pa_cons (pe_bm0 PySem.F.plainAttrs_dict PySem.F.slot_dict_items PySem.F.type_dict_items mt_items (pv 0)) pa_nil)) pa_nil)))))), ?_⟩
    have raise : ∀ (reason : Str) (i : V) (G' : Hp), (∀ d G2, ErrStep G' G2 d reason i → E (.ref CE) (some d) G2) → _ := fun reason i G' kx => errN_end (fields := ["reason", "index"]) (C := CE) (ws := [.str reason, i]) (G1 := G') (Q := fun cls d G' => E cls d G') rfl (by show 2 ≤ 1000; decide) fun d hd => kx d _ ⟨hd, Qh.Same.new hd, upd_same⟩
    rcases h with ⟨ty, hty, hk, kE⟩ | ⟨a, kvs, rfl, ha, hv, k1, k2, k3⟩
    · refine ⟨_, rfl, _, _, _, _, _, rfl, .ty _, hty, hk, _, rfl, ?_⟩
      exact iteT (raise "words" .non G kE)
    · refine ⟨_, rfl, _, _, _, _, _, rfl, .ty _, .base (.dK ha), kit_ty (r := true) (by decide +kernel), _, rfl, ?_⟩
      refine iteF ?_
      refine ⟨_, rfl, a, kvs, rfl, ha, _, _, rfl, rfl, _, rfl, ?_⟩
      have words : inSize kvs.length = false → _ := fun e => raise "words" .non G (k1 e)
      refine ite2 (fun h1 => ?_) (fun h1 => ?_)
      case refine_2 =>
        refine ⟨_, rfl, iteT (words ?_)⟩
        unfold inSize
        rw [Bool.eq_false_iff.mpr h1, Bool.false_and]
      obtain ⟨mc, u10, cr, cv⟩ := T.most
      refine ⟨C, mc, .int 10, u10, rfl, cr, cv, ?_⟩
      refine ⟨_, _, rfl, rfl, _, rfl, ?_⟩
      refine ite2 (fun h2 => ?_) (fun h2 => ?_)
      · refine words ?_
        have h2 : decide ((kvs.length : Int) ≤ 10) = false := by simpa using h2
        unfold inSize
        rw [h2, Bool.and_false]
      have h2 : decide ((kvs.length : Int) ≤ 10) = true := by simpa using h2
      have size : inSize kvs.length = true := by
        unfold inSize
        rw [h1, h2]
        rfl
      have few : kvs.length ≤ 10 := by
        have := of_decide_eq_true h2
        omega
      have k2 := k2 size
      have k3 := k3 size
      -- the walk, the dict locked
      refine ⟨a, _, ha, trivial, fun od => ?_⟩
      have kp0 : Kp a G (L2.upd G a (.frz od (.dK kvs))) := fun b o ne e => by
        rw [upd_ne ne]
        exact e
      refine ⟨_, rfl, a, od, kvs, rfl, upd_same, for_it walk_items (fun i σ' G' => ∃ o1 o2, σ' = [some (.ref a), o1, o2] ∧ Kp a G G' ∧ Same (L2.upd G a (.frz od (.dK kvs))) G' ∧ ∀ j e, j < i → kvs[j]? = some e → kvWord e = true)
        ⟨none, none, rfl, kp0, Same.refl _, fun j e hj _ => absurd hj (Nat.not_lt_zero j)⟩ (fun i σ' G' _ ⟨_, _, _, _, sm, _⟩ => sm _ _ upd_same) ?_ ?_⟩
      · rintro i y σ1 G1 G2 hi ⟨o1, o2, rfl, kp, sm, hw⟩ ⟨Tp, x1, x2, rfl, hT, rfl, e1, e2⟩
        have e1 : (kvs[i]?.map fun kv => kV kv.1) = some x1 := e1
        have e2 : (kvs[i]?.map Prod.snd) = some x2 := e2
        cases hkv : kvs[i]? with
        | none =>
          rw [hkv] at e1
          cases e1
        | some e =>
          rw [hkv] at e1 e2
          obtain rfl : kV e.1 = x1 := Option.some.inj e1
          obtain rfl : e.2 = x2 := Option.some.inj e2
          have hm := List.mem_of_getElem? hkv
          have kpT : Kp a G (L2.upd G1 Tp (.tup [kV e.1, e.2])) := kp.trans (Kp.same (Same.new hT))
          have smT : Same (L2.upd G a (.frz od (.dK kvs))) (L2.upd G1 Tp (.tup [kV e.1, e.2])) := sm.trans (Same.new hT)
          have aN : ∀ {G3 : Hp} {d : Addr}, Same (L2.upd G a (.frz od (.dK kvs))) G3 → G3 d = none → G d = none := fun {G3 d} s3 hd => by
            have h1 := s3.free hd
            by_cases z : d = a
            · rw [z, upd_same] at h1
              cases h1
            · rw [upd_ne z] at h1
              exact h1
          have bad : ∀ G3, Kp a G G3 → Same (L2.upd G a (.frz od (.dK kvs))) G3 → kvWord e = false → _ := fun G3 kp3 sm3 hf => raise "word" .non G3 fun d G4 es => k2 (fun all => by rw [all e hm] at hf; cases hf) d G4 (aN sm3 es.1) (kp3.trans (Kp.same es.2.1)) es.2.2
          refine ⟨Tp, _, rfl, SqT.of upd_same, rfl, _, _, rfl, _, _, rfl, rfl, ?_⟩
          refine ⟨_, rfl, kV e.1, rfl, (hv e hm _ kpT).1, fun G3 s3 => ⟨_, rfl, ?_⟩⟩
          have kp3 := kpT.trans (Kp.same s3)
          have sm3 := smT.trans s3
          cases w1 : wordV (kV e.1) with
          | false =>
            refine iteT (bad G3 kp3 sm3 ?_)
            unfold kvWord
            rw [w1, Bool.false_and]
          | true =>
            refine iteF ⟨_, rfl, e.2, rfl, (hv e hm _ kp3).2, fun G4 s4 => ⟨_, rfl, ?_⟩⟩
            have kp4 := kp3.trans (Kp.same s4)
            have sm4 := sm3.trans s4
            cases w2 : wordV e.2 with
            | false =>
              refine iteT (bad G4 kp4 sm4 ?_)
              unfold kvWord
              rw [w1, w2]
              rfl
            | true =>
              refine iteF ⟨_, _, rfl, kp4, sm4, fun j z hj hjz => ?_⟩
              by_cases hji : j = i
              · subst hji
                rw [hkv] at hjz
                rw [← Option.some.inj hjz]
                unfold kvWord
                rw [w1, w2]
                rfl
              · exact hw j z (by omega) hjz
      · rintro σ1 G1 ⟨o1, o2, rfl, kp, sm, hw⟩
        have a1 : G1 a = some (.frz od (.dK kvs)) := sm _ _ upd_same
        refine ⟨a1, ?_⟩
        have all : ∀ e ∈ kvs, kvWord e = true := fun e he => by
          obtain ⟨j, hj⟩ := List.mem_iff_getElem?.mp he
          exact hw j e (List.getElem?_eq_some_iff.mp hj).1 hj
        have smG : Same G (L2.upd G1 a (.dK kvs)) := fun b o e => by
          by_cases z : b = a
          · rw [z, ha] at e
            rw [z, upd_same]
            exact e
          · rw [upd_ne z]
            exact kp b o z e
        obtain ⟨qs, rfl, hqs⟩ := kvs_of all
        generalize hG2 : L2.upd G1 a (.dK (qs.map kvOf)) = G2 at smG
        have a2 : G2 a = some (.dK (qs.map kvOf)) := by rw [← hG2, upd_same]
        refine ⟨_, rfl, .inr (.inr (.inl ⟨rfl, .inl ⟨_, a2⟩⟩)), a, _, rfl, rfl, a2, fun p hp => ?_⟩
        refine ⟨p, a, qs.map (fun z => ((.inr z.1, .inr z.2) : Key × Key)), fun _ => true, rfl, upd_same, ?_, fun e he => ?_, fun H' l ps kp' perm pw hl hl' hps => ?_⟩
        · rw [upd_ne (ne_of_none a2 hp), a2, List.map_map]
          rfl
        · obtain ⟨z, _, rfl⟩ := List.mem_map.mp he
          exact shp_pair z
        · have smP : Same G H' := smG.trans ((Same.new hp).trans kp')
          -- the texts of the pairs
          have back : ∃ rs : List (Str × Str), ps.map (·.2) = rs.map pairK ∧ rs.Perm qs := by
            have e0 : (qs.map (fun z => ((.inr z.1, .inr z.2) : Key × Key))).map (fun e => [e.1, e.2]) = qs.map pairK := by
              rw [List.map_map]
              rfl
            rw [e0] at perm
            obtain ⟨rs, p1, p2⟩ := perm_lift pairK perm qs rfl
            exact ⟨rs, p2.symm, p1⟩
          obtain ⟨rs, e1, p1⟩ := back
          have tups : PairsAt H' (ps.map (·.1)) rs := by
            clear perm pw hl hl' p1
            induction ps generalizing rs with
            | nil =>
              cases rs with
              | nil => exact .nil
              | cons r rs => cases e1
            | cons z ps ih =>
              cases rs with
              | nil => cases e1
              | cons r rs =>
                obtain ⟨h1, h2⟩ := List.cons.inj e1
                refine .cons ?_ (ih (fun y hy => hps y (List.mem_cons_of_mem _ hy)) rs h2)
                have := hps z List.mem_cons_self
                rw [show z.2 = pairK r from h1] at this
                exact this
          refine ⟨l, _, rfl, .inl ⟨SqL.of hl', fun D hD => ?_⟩⟩
          refine k3 all rs D _ ⟨p1.map kvOf, ?_⟩ (smP.free hD) (smP.trans (Same.new hD)) ⟨ps.map (·.1), by rw [upd_same, List.map_map]; rfl, tups.same fun b t e => Same.new hD _ _ e⟩
          have : ps.map (·.2) = rs.map pairK := e1
          have pw2 : (ps.map (·.2)).Pairwise (fun x y => ltK y x = false) := List.pairwise_map.mpr pw
          rw [this] at pw2
          exact List.pairwise_map.mp pw2
end
/-- an instance with these pairs -/
def SwapAt (C : Addr) (G : Hp) (a : Addr) (ps : List (Str × Str)) : Prop := ∃ dx D, G a = some (.ins C dx [("pairs", .ref D)]) ∧ TupsAt G D ps
theorem SwapAt.same {C : Addr} {G G' : Hp} {a : Addr} {ps : List (Str × Str)} (h : SwapAt C G a ps) (s : Same G G') : SwapAt C G' a ps := by
  obtain ⟨dx, D, h1, h2⟩ := h
  exact ⟨dx, D, s _ _ h1, h2.same fun b l e => s _ _ e⟩
/-- .. while the instance at x is written -/
theorem tups_put {G : Hp} {D x C dx : Addr} {fs : List (Str × V)} {o : HO} {ps : List (Str × Str)} (h : TupsAt G D ps) (hx : G x = some (.ins C dx fs)) : TupsAt (L2.upd G x o) D ps := h.same fun a l e => by
  rw [upd_ne (tup_ne_ins hx a l e)]
  exact e
/-- __init__(self, **pairs): the dict at p -/
def spInit (K : PySem.W.Frag) (C CE : Addr) : Sp := fun vs G Q E => ∃ (x dx p : Addr) (kvs : List (Key × V)), vs = [.ref x, .ref p] ∧ G x = some (.ins C dx []) ∧ G p = some (.dK kvs) ∧ (∀ e ∈ kvs, ∀ G', Kp p G G' → Known K G' (kV e.1) ∧ Known K G' e.2) ∧
  (inSize kvs.length = false → ∀ d G', ErrStep G G' d "words" .non → E (.ref CE) (some d) G') ∧
  (inSize kvs.length = true → (¬ ∀ e ∈ kvs, kvWord e = true) → ∀ d G', G d = none → Kp p G G' → G' d = some (.xd [("index", .non), ("reason", .str (Str.ofString "word"))]) → E (.ref CE) (some d) G') ∧
  (inSize kvs.length = true → (∀ e ∈ kvs, kvWord e = true) → ∀ ps D G', SortP kvs ps → Kp x G G' → G' x = some (.ins C dx [("pairs", .ref D)]) → TupsAt G' D ps → Q .non G')
section
variable {P : Program} {w : World} {K : PySem.W.Frag} {mg : Str → Option Value} {base : Heap}
theorem scInit : FnScope ["self", "pairs"] ["self", "pairs"] (defScope sInit) := ⟨rfl, rfl, rfl, by decide +kernel, rfl, by decide +kernel, by decide +kernel⟩
theorem body_init {C CE : Addr} (T : SwapC K mg C) (F_ascP : Ok P w K mg base "ascending_pairs" (defArgs sAscP) ["pairs"] 3 (spAscP K w CE))
    {f : Addr} (cdv : Value) (A : Around) (out : List Env) (t : Shared) (G : Hp) (vs : List V) (Q : VK) (E : XK) (hr : Room 3 (A.deeper (envOfC "Swap.__init__" (defScope sInit) t.heap.objs.size f cdv))) (h : spInit K C CE vs G Q E) :
    ∃ rd, PSs (cxOf (L2.CX P w) P w K mg base ["self", "pairs"] "Swap.__init__" (defScope sInit) f cdv A out t G E) (defBody sInit) rd ∧ rd { nx := fun _ G' => Q .non G', rt := Q } (start ["self", "pairs"] vs) G := by
  obtain ⟨x, dx, p, kvs, rfl, hx, hp, hv, k1, k2, k3⟩ := h
  refine ⟨_, pss_one (ps_fld (pv 0) (pe_own F_ascP hr (takes_of rfl rfl rfl rfl) (pa_cons (pv 1) pa_nil)) rfl), ?_⟩
  refine ⟨_, rfl, .ref p, rfl, .inr (.inr ⟨p, kvs, rfl, hp, hv, k1, k2, fun h1 h2 ps D G' hs nD sm ht => ?_⟩)⟩
  have hx' : G' x = some (.ins C dx []) := sm _ _ hx
  refine ⟨_, rfl, x, C, dx, [], rfl, hx', T.cl, T.n1, by show 0 < 1000; decide, ?_⟩
  exact k3 h1 h2 ps D _ hs ((Kp.same sm).trans Kp.self) (by rw [upd_same]; rfl) (tups_put ht hx')
/-- the call with the keywords ks -/
theorem ok_init {C CE f : Addr} {fd : FuncData} {ks : List Str} (nd : ks.Nodup) (few : ks.length ≤ 1000) (F : Fun K "__init__" "Swap.__init__" sInit f fd) (T : SwapC K mg C) (F_ascP : Ok P w K mg base "ascending_pairs" (defArgs sAscP) ["pairs"] 3 (spAscP K w CE))
    (hb : ∀ (kV doc pm cdv ct : Value) (an : Option Addr) (u : Value) (us : List Value), us.length = ks.length → bindArgs (PySem.W.fnOf "__init__" "Swap.__init__" (defArgs sInit) (defBody sInit) (defScope sInit) .none kV doc pm an cdv ct) ⟨[u], ks.zip us⟩ =
      ((alloc ({ cls := .type "dict", data := .dict #[] } : Obj) : Sem Addr) >>= fun d => forIn (ks.zip us) PUnit.unit (fun x _ => (nsSet d x.1 x.2 >>= fun _ => pure (ForInStep.yield PUnit.unit))) >>= fun _ => pure [(("self" : Str), u), (("pairs" : Str), Value.ref d)])) :
    FnRW P w K mg base (L2.CX P w) 4 f ks (spKw ks (spInit K C CE)) := by
  obtain ⟨oc, od, kV, doc, pm, an, cdv, ct, osl, rfl, lk, hcd⟩ := F.ex
  exact fn_kw (p1 := "self") (pk := "pairs") nd few lk hcd scInit StX.cxUp (hb kV doc pm cdv ct an) fun A out t G vs Q E hr h => body_init T F_ascP cdv A out t G vs Q E hr h
/-- .. with the keyword a alone -/
theorem ok_initA {C CE f : Addr} {fd : FuncData} (F : Fun K "__init__" "Swap.__init__" sInit f fd) (T : SwapC K mg C) (F_ascP : Ok P w K mg base "ascending_pairs" (defArgs sAscP) ["pairs"] 3 (spAscP K w CE)) :
    FnRW P w K mg base (L2.CX P w) 4 f ["a"] (spKw ["a"] (spInit K C CE)) :=
  ok_init (by decide) (by decide) F T F_ascP fun kV doc pm cdv ct an u us hl => match us, hl with
    | [_], _ => rfl
/-- Swap.of(v) -/
def spOf (K : PySem.W.Frag) (w : World) (C CE : Addr) : Sp := fun vs G Q E => ∃ v, vs = [.ref C, v] ∧
  (mixE K w CE v G E ∨ (∃ t, TyX K G v t ∧ PySem.W.kitOne K t (.type "dict") = some false ∧ ∀ d G', ErrStep G G' d "words" .non → E (.ref CE) (some d) G') ∨
   ∃ (a : Addr) (kvs : List (Key × V)), v = .ref a ∧ G a = some (.dK kvs) ∧ (∀ e ∈ kvs, ∀ G', Kp a G G' → Known K G' (kV e.1) ∧ Known K G' e.2) ∧
    (inSize kvs.length = false → ∀ d G', ErrStep G G' d "words" .non → E (.ref CE) (some d) G') ∧
    (inSize kvs.length = true → (¬ ∀ e ∈ kvs, kvWord e = true) → ∀ d G', G d = none → Kp a G G' → G' d = some (.xd [("index", .non), ("reason", .str (Str.ofString "word"))]) → E (.ref CE) (some d) G') ∧
    (inSize kvs.length = true → (∀ e ∈ kvs, kvWord e = true) → ∀ ps x G', SortP kvs ps → G x = none → Same G G' → SwapAt C G' x ps → Q (.ref x) G'))
abbrev ofN : List Str := ["cls", "pairs", "checked", "swap"]
theorem scOf : FnScope ofN ["cls", "pairs"] (defScope sOf) := ⟨rfl, rfl, rfl, by decide +kernel, rfl, by decide +kernel, by decide +kernel⟩
theorem ok_of {C CE f fI : Addr} {fd : FuncData} (F : Fun K "of" "Swap.of" sOf f fd) (T : SwapC K mg C) (M : Mk K C fI) (F_ascP : Ok P w K mg base "ascending_pairs" (defArgs sAscP) ["pairs"] 3 (spAscP K w CE)) (FI : FnRW P w K mg base (L2.CX P w) 4 fI ["a"] (spKw ["a"] (spInit K C CE))) :
    FnOk P w K mg base (L2.CX P w) 6 f fd ["cls", "pairs"] (spOf K w C CE) := by
  refine F.okX scOf (fun vs G Q E h => ?_) (fun cdv A out t G vs Q E hr h => ?_)
  · obtain ⟨v, rfl, _⟩ := h
    rfl
  · obtain ⟨v, rfl, h⟩ := h
    refine ⟨_, (pss_cons (ps_set (i := 2) scOf.nd rfl (by first | exact Or.inl rfl | exact Or.inr rfl) (pe_own F_ascP (hr.mono (by decide)) (takes_of rfl rfl rfl rfl) (pa_cons (pv 1) pa_nil)))
      (pss_cons (ps_set (i := 3) scOf.nd rfl (by first | exact Or.inl rfl | exact Or.inr rfl) (pe_makeWL (i := 0) M FI hr takes0 rfl (by first | exact Or.inl rfl | exact Or.inr rfl) (pk_cons pe_str pk_nil)))
      (pss_cons (ps_fld (pv 3) (pv 2) rfl)
      (pss_one (ps_ret (pv 3)))))), ?_⟩
    rcases h with hm | ⟨ty, hty, hk, kE⟩ | ⟨a, kvs, rfl, ha, hv, k1, k2, k3⟩
    · exact ⟨_, rfl, v, rfl, .inl hm⟩
    · exact ⟨_, rfl, v, rfl, .inr (.inl ⟨ty, hty, hk, kE⟩)⟩
    · refine ⟨_, rfl, .ref a, rfl, .inr (.inr ⟨a, kvs, rfl, ha, hv, k1, k2, fun h1 h2 ps D G1 hs nD s1 ht => ?_⟩)⟩
      refine ⟨rfl, rfl, fun x dx hx hdx ne => ⟨.ref x, [.str (Str.ofString "a")], rfl, rfl, fun p hp => ?_⟩⟩
      have px : p ≠ x := fun e => by
        rw [e, upd_same] at hp
        cases hp
      have s3 : Same G1 (L2.upd (L2.upd (L2.upd G1 dx (.own x)) x (.ins C dx [])) p (.dK (kwKvs ["a"] [.str (Str.ofString "a")]))) := fun b o e => by
        refine Same.new hp _ _ ?_
        rw [upd_ne (ne_of_none e hx), upd_ne (ne_of_none e hdx)]
        exact e
      refine ⟨x, dx, p, kwKvs ["a"] [.str (Str.ofString "a")], rfl, by rw [upd_ne px.symm, upd_same], upd_same, fun e he G' _ => ?_, fun h => absurd h (by decide), fun _ h => absurd (fun e he => ?_) h, fun _ _ ps' D' G4 hs' kp4 ix4 ht4 => ⟨rfl, ?_⟩⟩
      · rw [List.mem_singleton.mp he]
        exact ⟨.inl ⟨_, rfl, by decide +kernel⟩, .inl ⟨_, rfl, by decide +kernel⟩⟩
      · rw [List.mem_singleton.mp he]
        decide +kernel
      · have k4 : ∀ b o, G1 b = some o → G4 b = some o := fun b o e => kp4 b o (ne_of_none e hx) (s3 _ _ e)
        refine ⟨_, rfl, _, rfl, x, C, dx, _, rfl, ix4, T.cl, T.n1, by show 1 < 1000; decide, ?_⟩
        have fin : ∀ G5, G5 = L2.upd G4 x (.ins C dx [("pairs", .ref D)]) → Q (.ref x) G5 := fun G5 e5 => by
          refine k3 h1 h2 ps x G5 hs (s1.free hx) (fun b o e => ?_) ⟨dx, D, by rw [e5, upd_same], ?_⟩
          · have e1 := s1 _ _ e
            rw [e5, upd_ne (ne_of_none e1 hx)]
            exact k4 _ _ e1
          · rw [e5]
            exact tups_put (ht.same fun b l e => k4 _ _ e) ix4
        exact ⟨_, rfl, fin _ rfl⟩
/-- what a swap makes of a word or of none -/
def resW (ps : List (Str × Str)) (v : V) : V := match ps.find? (fun p => decide (V.str p.1 = v)) with
  | some p => .str p.2
  | none => v
def spResult (C : Addr) : Sp := fun vs G Q _ => ∃ (a : Addr) (ps : List (Str × Str)) (v : V), vs = [.ref a, v] ∧ SwapAt C G a ps ∧ (∀ y, scal v (.str y) = true) ∧ Q (resW ps v) G
abbrev resN : List Str := ["self", "value", "first", "second"]
theorem scResult : FnScope resN ["self", "value"] (defScope sResult) := ⟨rfl, rfl, rfl, by decide +kernel, rfl, by decide +kernel, by decide +kernel⟩
theorem ok_result {C f : Addr} {fd : FuncData} (F : Fun K "result" "Swap.result" sResult f fd) (T : SwapC K mg C) : FnOk P w K mg base (L2.CX P w) 1 f fd ["self", "value"] (spResult C) := by
  refine F.okX scResult (fun vs G Q E h => ?_) (fun cdv A out t G vs Q E hr h => ?_)
  · obtain ⟨a, ps, v, rfl, _⟩ := h
    rfl
  · obtain ⟨a, ps, v, rfl, ⟨dx, D, h1, as, h2, h3⟩, fv, k⟩ := h
    refine ⟨_, (pss_cons (ps_for (passes_of rfl) rfl (pi_tup (pe_fld (pv 0) rfl)) (pg_tup rfl (pgs_cons (pg_name (i := 2) scResult.nd rfl (by first | exact Or.inl rfl | exact Or.inr rfl)) (pgs_cons (pg_name (i := 3) scResult.nd rfl (by first | exact Or.inl rfl | exact Or.inr rfl)) pgs_nil)))
        (pss_one (ps_if (pt_cmpR op_eq (pv 1) (pv 2) (nomark _)) (pss_one (ps_ret (pv 3))) pss_nil)))
      (pss_one (ps_ret (pv 1)))), ?_⟩
    have h3l := h3.len
    refine ⟨_, rfl, a, C, dx, _, _, rfl, h1, T.cl, T.n1, rfl, D, rfl, ⟨_, SqT.of h2⟩, for_it walk_tup (fun i σ' G' => ∃ o1 o2, σ' = [some (.ref a), some v, o1, o2] ∧ G' = G ∧ ∀ j p, j < i → ps[j]? = some p → V.str p.1 ≠ v)
      ⟨none, none, rfl, rfl, fun j p hj _ => absurd hj (Nat.not_lt_zero j)⟩ (fun i σ' G' _ ⟨_, _, _, e, _⟩ => by rw [e]; exact SqT.of h2) ?_ ?_⟩
    · rintro i y σ1 G1 G1' hi ⟨o1, o2, rfl, rfl, hno⟩ ⟨rfl, hy⟩
      obtain ⟨ai, hai, rfl⟩ := map_at hy
      obtain ⟨p, hp, hq⟩ := h3.at hai
      refine ⟨ai, _, rfl, SqT.of hq, rfl, _, _, rfl, _, _, rfl, rfl, ?_⟩
      refine ⟨_, rfl, _, rfl, fv p.1, _, rfl, ?_⟩
      refine ite2 (fun hq => ?_) (fun hq => ?_)
      · have hq := of_decide_eq_true hq
        have e : ps.find? (fun p => decide (V.str p.1 = v)) = some p := by
          refine List.find?_eq_some_iff_getElem.mpr ⟨decide_eq_true hq.symm, i, (List.getElem?_eq_some_iff.mp hp).1, (List.getElem?_eq_some_iff.mp hp).2, fun j hj => ?_⟩
          have hjl : j < ps.length := Nat.lt_trans hj (List.getElem?_eq_some_iff.mp hp).1
          rw [decide_eq_false (hno j _ hj (List.getElem?_eq_getElem hjl))]
          rfl
        unfold resW at k
        rw [e] at k
        exact ⟨_, rfl, k⟩
      · have hq : V.str p.1 ≠ v := fun e => hq (decide_eq_true e.symm)
        refine ⟨_, _, rfl, rfl, fun j z hj hjz => ?_⟩
        by_cases hji : j = i
        · subst hji
          rw [hp] at hjz
          rw [← Option.some.inj hjz]
          exact hq
        · exact hno j z (by omega) hjz
    · rintro σ1 G1 ⟨o1, o2, rfl, rfl, hno⟩
      have e : ps.find? (fun p => decide (V.str p.1 = v)) = none := List.find?_eq_none.mpr fun p hm => by
        obtain ⟨j, hj⟩ := List.getElem?_of_mem hm
        have := hno j p (by rw [List.length_map, h3l]; exact (List.getElem?_eq_some_iff.mp hj).1) hj
        rw [decide_eq_false this]
        exact Bool.false_ne_true
      unfold resW at k
      rw [e] at k
      exact ⟨_, rfl, k⟩
end
end K07.Sw
set_option Elab.async false
set_option linter.all false
set_option maxRecDepth 100000
set_option maxHeartbeats 4000000
/-! Data with small dicts: what is read, repr of it; new lists apart from sys.modules. -/
namespace Qv
open PySem PySem.Spec PyProof.Rows L2 Qh
mutual
inductive Dw (G : Hp) : V → PyData → Prop
  | non : Dw G .non .none
  | bl (b : Bool) : Dw G (.bl b) (.bool b)
  | int (i : Int) : Dw G (.int i) (.int i)
  | str (x : Str) : Dw G (.str x) (.str x)
  | lst {a : Addr} {xs : List V} {ds : List PyData} : a ≠ sysModules → G a = some (.lst xs) → DwAll G xs ds → Dw G (.ref a) (.list ds)
  | tup {a : Addr} {xs : List V} {ds : List PyData} : G a = some (.tup xs) → DwAll G xs ds → Dw G (.ref a) (.tuple ds)
  | dct {a : Addr} {k : Str} {i : Int} : G a = some (.dK [(.inr k, .int i)]) → Dw G (.ref a) (.dict [(.str k, .int i)])
inductive DwAll (G : Hp) : List V → List PyData → Prop
  | nil : DwAll G [] []
  | cons {v : V} {vs : List V} {d : PyData} {ds : List PyData} : Dw G v d → DwAll G vs ds → DwAll G (v :: vs) (d :: ds)
end
mutual
theorem Dw.same {G G' : Hp} (s : Same G G') : ∀ {v : V} {d : PyData}, Dw G v d → Dw G' v d
  | _, _, .non => .non
  | _, _, .bl b => .bl b
  | _, _, .int i => .int i
  | _, _, .str x => .str x
  | _, _, .lst n h r => .lst n (s _ _ h) (DwAll.same s r)
  | _, _, .tup h r => .tup (s _ _ h) (DwAll.same s r)
  | _, _, .dct h => .dct (s _ _ h)
theorem DwAll.same {G G' : Hp} (s : Same G G') : ∀ {vs : List V} {ds : List PyData}, DwAll G vs ds → DwAll G' vs ds
  | _, _, .nil => .nil
  | _, _, .cons h r => .cons (Dw.same s h) (DwAll.same s r)
end
section
variable {X : Cx} {pins : List (Addr × Obj)} {σ : L2.St} {G : Hp} {s : Shared}
mutual
theorem Dw.reads (I : Inv X pins σ G s) : ∀ {v : V} {d : PyData} (u : Value), Dw G v d → RelV v u → ∃ as, Reads s.heap u d as ∧ sysModules ∉ as
  | _, _, u, .non, r => by
    cases r
    exact ⟨_, .none, fun h => nomatch h⟩
  | _, _, u, .bl b, r => by
    cases r
    exact ⟨_, .bool b, fun h => nomatch h⟩
  | _, _, u, .int i, r => by
    obtain ⟨t, rfl⟩ := r
    exact ⟨_, .int i t, fun h => nomatch h⟩
  | _, _, u, .str x, r => by
    obtain ⟨t, rfl⟩ := r
    exact ⟨_, .str x t, fun h => nomatch h⟩
  | _, _, u, .lst (a := a) n h rr, r => by
    cases r
    obtain ⟨z, its, m, rv, hl, e⟩ := I.lstM h
    obtain ⟨as, hr, hs⟩ := DwAll.reads I its rr rv
    refine ⟨_, .list e rfl rfl hr, fun hm => ?_⟩
    rcases List.mem_cons.mp hm with hm | hm
    · exact n hm.symm
    · exact hs hm
  | _, _, u, .tup h rr, r => by
    cases r
    obtain ⟨its, rv, ⟨o, ho, hc, n, hd⟩, _⟩ := I.tuple (SqT.of h)
    obtain ⟨as, hr, hs⟩ := DwAll.reads I _ rr rv
    exact ⟨_, .tuple ho hc hd hr, hs⟩
  | _, _, u, .dct (a := a) (k := k) (i := i) h, r => by
    cases r
    obtain ⟨z, hsm, vs, kv, o, es, ep, ho, ex, hd, ko, pr, nd⟩ := I.hok a _ h
    have hna : a ≠ sysModules := fun e => by
      rw [e] at hsm
      exact absurd hsm (by decide)
    cases kv with
    | @cons _ q _ qs h1 h2 =>
      cases h2
      obtain ⟨qk, qv⟩ := q
      obtain ⟨e1, t, e2⟩ := h1
      have e1 : Sum.inr k = qk := e1
      have e2 : qv = Value.int i t := e2
      subst e1 e2
      generalize hes : es.toList = l at pr
      cases pr with
      | @cons e _ es' _ p1 p2 p3 =>
        cases p3
        have p1 : keyIs (Sum.inr k) e.key = true := p1
        rcases keyIs_shape p1 with ⟨_, _, z1, _⟩ | ⟨x, t2, z1, z2⟩
        · cases z1
        · cases z1
          refine ⟨_, .dict (kvs := [(.str k, .int i)]) ho ex.1 hd (as := [] ++ []) (bs := [] ++ []) ?_ ?_, ?_⟩
          · rw [hes]
            show ReadsAll s.heap [e.key] [.str k] ([] ++ [])
            rw [z2]
            exact .cons (.str k t2) .nil
          · rw [hes]
            show ReadsAll s.heap [e.val] [.int i] ([] ++ [])
            have p2 : e.val = Value.int i t := p2
            rw [p2]
            exact .cons (.int i t) .nil
          · intro hm
            simp at hm
            exact hna hm.symm
theorem DwAll.reads (I : Inv X pins σ G s) : ∀ {vs : List V} {ds : List PyData} (us : List Value), DwAll G vs ds → Vals vs us → ∃ as, ReadsAll s.heap us ds as ∧ sysModules ∉ as
  | _, _, us, .nil, r => by
    cases r
    exact ⟨_, .nil, fun h => nomatch h⟩
  | _, _, us, .cons h rr, r => by
    cases r with
    | cons r1 r2 =>
      obtain ⟨as, h1, s1⟩ := Dw.reads I _ h r1
      obtain ⟨bs, h2, s2⟩ := DwAll.reads I _ rr r2
      exact ⟨_, .cons h1 h2, fun hm => (List.mem_append.mp hm).elim s1 s2⟩
end
end
section
variable {X : Cx} {es : List Expr} {t : TA} {pos : Pos}
end
end Qv
set_option Elab.async false
set_option linter.all false
set_option maxRecDepth 100000
set_option maxHeartbeats 4000000
/-! o.m(k = v), C.m(k = v); d.get(x, z) with x None; dict(d); repr of a dict of texts. -/
namespace Qmk
open PySem PySem.Spec PyProof.Rows L2 TL Qh Qi Ql ClX
/-- o.m(k = v) -/
def tMethK (C : Addr) (m : Str) (sp : Sp) (E : L2.St → XK) (ta : TE) (tk : TA) : TE := fun σ H Q => ta σ H fun x H1 => ∃ a dx fs, x = .ref a ∧ H1 a = some (.ins C dx fs) ∧ fs.lookup m = none ∧ tk σ H1 fun zs H2 => sp (x :: zs) H2 Q (E σ)
section
variable {X : Cx} {W : WX} {k : Nat} {f C : Addr} {fd : FuncData} {ps ks : List Str} {sp : Sp} {m : Str} {o : Expr} {kws : List Keyword} {ta : TE} {tk : TA} {apos pos : Pos}
theorem pe_methK {pl : Sem Bool} (he : PE X o ta) (c : Cls X.K C) (hm : Meth X.K C m f) (F : FnOk X.prog X.w X.K X.mg X.base (L2.CX X.prog X.w) k f fd ps sp) (hr : Room k X.A) (hb : ∀ (u : Value) (ws : List Value), ws.length + 1 = ps.length → bindArgs fd ⟨[u], ks.zip ws⟩ = pure (ps.zip (u :: ws))) (tks : Takes X W) (hkw : PK X kws tk)
    (hall : (backToKw pos (keywordEach kws X.env)).all (·.1.isSome) = true := by rfl) (hks : (backToKw pos (keywordEach kws X.env)).filterMap (·.1) = ks := by rfl)
    (hpl : ((backTo pos (starEach [] X.env)).any (·.1) || (backToKw pos (keywordEach kws X.env)).any (·.1.isNone)) = false := by rfl)
    (ht : eval (.Call (.Attribute o m apos) [] kws pos) X.env = (do
      let ov ← eval o X.env
      standAt apos.atName
      let (f, first) ← holding [ov] (getMethod ov m pl)
      callWith pos f first (backTo pos (starEach [] X.env)) (backToKw pos (keywordEach kws X.env))) := by rfl) :
    PE X (.Call (.Attribute o m apos) [] kws pos) (tMethK C m sp (WE W) ta tk) := by
  refine ⟨fun pins s σ H Q I h => ?_⟩
  refine PySem.W.methodCall_KW (pl := pl) (thn (he.run pins s σ H _ I h) fun u s1 ⟨x, H1, I1, rx, a, dx, fs, ex, ea, l, q⟩ => ?_) ht
  subst ex
  obtain rfl : u = Value.ref a := rx
  refine getmeth_ok I1 ea c hm l ?_
  refine PySem.W.callWith_KW0 (first := [.ref a]) (h₀ := X.base) I.ok.mod.kin hm.kp hall ?_ hpl
  refine thn (hkw.run pos pins s1 σ H1 _ I1 q) ?_
  rintro ws s2 ⟨zs, H2, I2, rz, q2⟩
  refine ⟨I2.kIn, ?_⟩
  rw [hks]
  have r2 : Vals (V.ref a :: zs) (Value.ref a :: ws) := .cons rfl rz
  have hl : ws.length + 1 = ps.length := by
    have h1 := F.len _ _ _ _ q2
    rw [List.length_cons] at h1
    rw [← rz.length]
    exact h1
  refine wpAny_call (codeAny_mono (F.run X.A X.stack s2 H2 ⟨[.ref a], ks.zip ws⟩ (.ref a :: ws) (.ref a :: zs) Q (WE W σ) hr I2.env0 (BindsTo.of_eq (hb _ ws hl)) r2 q2) ?_)
  rintro (e | fl) s' hq
  · exact passAt tks σ pins H2 s2 e s' I2 hq
  · cases fl with
    | ret u => exact I2.after hq
    | next => exact hq.elim
    | brk => exact hq.elim
    | cont => exact hq.elim
end
/-- what == and isinstance ask of a class -/
structure InsT (K : PySem.W.Frag) (C : Addr) : Prop where
  cl : Cls K C
  ha : PySem.W.findIn K (.ref C) "__class__" = some (some (.builtin "object.__class__"))
  hn : PySem.W.specialIn K (.builtin "object.__class__") "__get__" = some (some (.builtin "getset_descriptor.__get__"))
  htk : PySem.W.takesIn K (.builtin "object.__class__") = some true
  hm : PySem.W.mroIn K C (.type "object") = some true
theorem InsT.ty {K : PySem.W.Frag} {C a dx : Addr} {G : Hp} {fs : List (Str × V)} (T : InsT K C) (h : G a = some (.ins C dx fs)) : TyX K G (.ref a) (.ref C) := .base (.ins h T.cl T.ha T.hn T.htk T.hm)
/-! ### a dict of ints and texts, asked for None -/
section
variable {P : Program} {w : World}
def leafOf : Key → Leaf
  | .inl i => .num i
  | .inr x => .text x
theorem leaf_is {k : Key} {u : Value} (h : keyIs k u = true) : (leafKind P w).is (leafOf k) u = true := by
  rcases keyIs_shape h with ⟨i, t, rfl, rfl⟩ | ⟨x, t, rfl, rfl⟩
  · exact decide_eq_true rfl
  · exact h
theorem leaf_hash (k : Key) : (leafKind P w).hash (leafOf k) = (mixKind P w).hash k := by cases k <;> rfl
theorem leaf_pairs : ∀ {es : List DictEntry} {vs : List (Key × Value)}, Pairs (mixKind P w) es vs → Pairs (leafKind P w) es (vs.map fun q => (leafOf q.1, q.2))
  | _, _, .nil => .nil
  | _, _, .cons h1 h2 t => .cons (leaf_is h1) h2 (leaf_pairs t)
theorem leaf_inj {a b : Key} (h : leafOf a = leafOf b) : a = b := by
  cases a <;> cases b <;> cases h <;> rfl
theorem leaf_dict {h : Heap} {a : Addr} {vs : List (Key × Value)} (d : h.DictOf (mixKind P w) a vs) : h.DictOf (leafKind P w) a (vs.map fun q => (leafOf q.1, q.2)) := by
  obtain ⟨o, es, ep, ho, hx, hd, hk, hp, hn⟩ := d
  refine ⟨o, es, ep, ho, hx, hd, fun e he => ?_, leaf_pairs hp, ?_⟩
  · obtain ⟨k, h1, h2⟩ := hk e he
    exact ⟨leafOf k, leaf_is h1, h2.trans (leaf_hash k).symm⟩
  · rw [List.map_map]
    have : (vs.map ((fun x : Leaf × Value => x.1) ∘ fun q => (leafOf q.1, q.2))) = (vs.map (·.1)).map leafOf := by
      rw [List.map_map]
      rfl
    rw [this]
    exact List.Pairwise.map _ (fun a b ne e => ne (leaf_inj e)) hn
theorem leaf_none (vs : List (Key × Value)) : valueAt (vs.map fun q => (leafOf q.1, q.2)) Leaf.none = none := by
  unfold valueAt
  rw [List.find?_eq_none.mpr fun x hx => ?_]
  · rfl
  · obtain ⟨q, _, rfl⟩ := List.mem_map.mp hx
    obtain ⟨k, v⟩ := q
    cases k <;> simp [leafOf]
end
section
variable {X : Cx} {pins : List (Addr × Obj)} {σ : L2.St} {H : Hp} {s : Shared} {a : Addr} {kvs : List (Key × V)} {r : Value} {A : Around} {E : Value → Shared → Prop}
theorem d_getNone {Q : Value → Shared → Prop} (I : Inv X pins σ H s) (e : Rd H a (.dK kvs)) (h : ∀ s', Inv X pins σ H s' → Q r s') : wpAny (model X.prog X.w) A (call (.builtin "dict.get") [.ref a, .none, r]) Q E s := by
  obtain ⟨z, hd, vs, rel, dd⟩ := dk_rd I.hok e
  refine call_meetsIn PySem.F.slot_dict_get dd.typeIs PySem.F.entry_dict_get (PySem.F.args_dict_get_3 _ _ _) (meets_dict_get_default (leafKind X.prog X.w) a (k := Leaf.none) (key := .none) rfl hd r) ⟨_, (leaf_dict dd).mapOf, ?_⟩
  rw [leaf_none]
  exact h _ (I.tok _)
end
/-- d.get(x, z), x a text or an int or None -/
def tDGet2N (td ty tx : TE) : TE := fun σ H Q => td σ H fun x H1 => ∃ a, x = .ref a ∧ IsD H1 a ∧ ty σ H1 fun y H2 => tx σ H2 fun z H3 => (y = .non ∧ (∃ kvs, Rd H3 a (.dK kvs)) ∧ Q z H3) ∨ ∃ o, DGet H3 a y o ∧ Q (o.getD z) H3
section
variable {X : Cx} {o e f : Expr} {apos cpos : Pos} {td ty tx : TE}
theorem pe_dget2N (hu : X.A.units + 1 < cLine) (ho : PE X o td) (he : PE X e ty) (hf : PE X f tx) (m : M2 X o "get" apos e f cpos) : PE X (.Call (.Attribute o "get" apos) [e, f] [] cpos) (tDGet2N td ty tx) := by
  refine ⟨fun pins s σ H Q I h => ?_⟩
  refine wpAny_Call_method m.base m.few m.line PySem.F.plainAttrs_dict PySem.F.slot_dict_get PySem.F.type_dict_get (thn (ho.run pins s σ H _ I h) fun u s1 ⟨x, H1, I1, rx, a, ex, d, q1⟩ => ?_)
  subst ex
  obtain rfl : u = Value.ref a := rx
  obtain ⟨t1, t2, _⟩ := isD_at I1 d
  refine ⟨t1, t2, ?_⟩
  rw [m.trees]
  refine Calls.callWith_builtin rfl (Calls.evalArgs_plain (Calls.spliced_cons (thn (he.run pins s1 σ H1 _ I1 q1) fun iv s2 ⟨y, H2, I2, ry, q2⟩ =>
    Calls.spliced_cons (thn (hf.run pins s2 σ H2 _ I2 q2) fun fv s3 ⟨z, H3, I3, rz, q3⟩ => Calls.spliced_nil ?_))))
  rcases q3 with ⟨ey, ⟨kvs, e⟩, q3⟩ | ⟨ov, g, q3⟩
  · subst ey
    cases (show iv = Value.none from ry)
    exact d_getNone I3 e fun s4 I4 => ⟨_, H3, I4, rz, q3⟩
  · exact d_get2 hu I3 g ry rz fun w' s4 I4 rw' => ⟨_, H3, I4, rw', q3⟩
end
/-! ### repr of a dict of texts -/
def kvS (p : Str × Str) : Key × V := (.inr p.1, .str p.2)
theorem txt_all {x : Str} (h : txt x = true) : (x.cps.toList.all fun c => decide (c < 16 ^ 8)) = true := by
  unfold txt at h
  rw [← Array.all_toList, List.all_eq_true] at h
  rw [List.all_eq_true]
  intro c hc
  have := h c hc
  simp at this
  exact decide_eq_true (by omega)
section
variable {X : Cx} {pins : List (Addr × Obj)} {σ : L2.St} {G : Hp} {s : Shared}
end
end Qmk
set_option Elab.async false
set_option linter.all false
set_option maxRecDepth 100000
set_option maxHeartbeats 2000000
/-! {**a, **b} of two plain dicts -/
namespace PySem
section
variable {prog : Program} {w : World} {K : Type} [DecidableEq K] {knd : KeyKind prog w K} {A : Around} {E : Value → Shared → Prop} {s : Shared}
theorem qm_put {d : Addr} {kvs : List (K × Value)} {k : K} {key v : Value} {Q : Unit → Shared → Prop} (hkey : knd.is k key = true) (hm : s.heap.DictOf knd d kvs)
    (hQ : ∀ h', h'.DictOf knd d (stored kvs k v) → Heap.SameBut d s.heap h' → Q () { s with heap := h' })
    (hsz : kvs.length ≤ sizeLine := by size_fits) :
    wpAny (model prog w) A (dictPut d (knd.hash k) key v) Q E s := by
  obtain ⟨o, es, ep, ho, hc, hd, hk, hp, hn⟩ := hm
  have hes : es.size ≤ sizeLine := by have e1 := hp.length; have e2 : es.toList.length = es.size := by simp
                                      omega
  unfold dictPut
  refine wpAny_bind (wpAny_dictFind_of hkey ho hd hk ?_)
  have hidx : (es.findIdx? fun e => knd.is k e.key) = kvs.findIdx? fun kv => decide (kv.1 = k) := by
    rw [← hp.findIdx k]; obtain ⟨l⟩ := es; simp
  cases hi : es.findIdx? fun e => knd.is k e.key with
  | some i =>
    refine wpAny_updateDict ho hd (hQ _ ⟨_, _, ep, Heap.get?_update_self _ ho (Obj.isFreed_of_dict (Obj.data_mapDict hd _)),
      hc.mapDict _, Obj.data_mapDict hd _, hk.modify _ _, ?_, ?_⟩ (Heap.SameBut.update ..))
    · rw [stored, if_pos (any_of_findIdx_some (hidx ▸ hi))]
      have hl : (es.toList.findIdx? fun e => knd.is k e.key) = some i := by rw [← hi]; obtain ⟨l⟩ := es; simp
      have := hp.modify hn hl v
      obtain ⟨l⟩ := es
      simpa using this
    · rw [stored, if_pos (any_of_findIdx_some (hidx ▸ hi)), keys_map_store]; exact hn
  | none =>
    have hnot : k ∉ kvs.map (·.1) := not_mem_of_findIdx_none (hidx ▸ hi)
    have hany : ¬ (kvs.any fun kv => decide (kv.1 = k)) = true := by
      rw [List.any_eq_true]; rintro ⟨kv, hkv, he⟩
      exact hnot (List.mem_map.mpr ⟨kv, hkv, of_decide_eq_true he⟩)
    refine wpAny_updateDictKeys (hz := hes) ho hd (hQ _ ⟨_, _, ep + 1, Heap.get?_update_self _ ho (Obj.isFreed_of_dict (Obj.data_mapDictKeys hd _)),
      hc.mapDictKeys _, Obj.data_mapDictKeys hd _, hk.push hkey _, ?_, ?_⟩ (Heap.SameBut.update ..))
    · rw [stored, if_neg hany]
      have := hp.append hkey (knd.hash k) v
      obtain ⟨l⟩ := es
      simpa using this
    · rw [stored, if_neg hany, List.map_append, List.nodup_append]
      refine ⟨hn, by simp, ?_⟩
      intro a ha b hb
      simp only [List.map_cons, List.map_nil, List.mem_singleton] at hb
      subst hb
      exact fun e => hnot (e ▸ ha)
theorem qm_merge {d o : Addr} {kvs more : List (K × Value)} {Q : Unit → Shared → Prop} (hr : ∀ k a, knd.is k (.ref a) = false) (hdo : d ≠ o) (hoS : (o == sysModules) = false)
    (hd : s.heap.DictOf knd d kvs) (ho : s.heap.DictOf knd o more)
    (hQ : ∀ h', h'.DictOf knd d (merged kvs more) → h'.DictOf knd o more → Heap.SameBut d s.heap h' → Q () { s with heap := h' })
    (hsz : kvs.length + more.length ≤ sizeLine := by size_fits) :
    wpAny (model prog w) A (mergeMapping d (.ref o) false) Q E s := by
  obtain ⟨od, esd, epd, hod, hcd, hdd, hkd, hpd, hnd⟩ := id hd
  obtain ⟨oo, eso, epo, hoo, hco, hdo', hko, hpo, hno⟩ := id ho
  have hlen : more.length = eso.size := by rw [← hpo.length]; simp
  unfold mergeMapping
  refine wpAny_bind (wpAny_isInstance ho.typeIs isSubtype_dict_dict ?_)
  simp only [if_true]
  refine wpAny_bind (wpAny_specialOf ho.typeIs F.slot_dict_iter.lookup ?_)
  refine wpAny_bind (wpAny_pure ?_)
  simp only [beq_self_eq_true]
  rw [if_neg (by rw [hoS]; exact Bool.false_ne_true)]
  refine wpAny_bind (wpAny_dictEntries hod hdd ?_)
  have loop : wpAny (model prog w) A (do
      let l ← dictEntries o
      let size := l.size
      let epoch ← dictEpoch o
      forIn (List.range size) PUnit.unit fun i (_ : PUnit) => (do
          let l' ← dictEntries o
          match l'[i]? with
            | some e => do
              holding [e.key, e.val] (dictPut d e.hash e.key e.val)
              let ep' ← dictEpoch o
              if (ep' != epoch) = true then do
                  (unsupported "dict.changed-during-merge" : Sem PUnit)
                  pure (ForInStep.yield PUnit.unit)
                else pure (ForInStep.yield PUnit.unit)
            | _ => do
              (unsupported "dict.changed-during-merge" : Sem PUnit)
              pure (ForInStep.yield PUnit.unit) : Sem (ForInStep PUnit))
      pure ()) Q E s := by
    refine wpAny_bind (wpAny_dictEntries hoo hdo' ?_)
    refine wpAny_bind (wpAny_dictEpoch hoo hdo' ?_)
    refine wpAny_bind ?_
    rw [List.range_eq_range']
    refine wpAny_forIn_list _
      (fun rest _ s' => ∃ h' i, s' = { s with heap := h' } ∧ rest = List.range' i (eso.size - i) ∧ i ≤ eso.size ∧ h'.DictOf knd d (merged kvs (more.take i)) ∧ h'.get? o = some oo ∧ Heap.SameBut d s.heap h')
      _ ?_ ?_ _ _ ⟨s.heap, 0, rfl, by simp, Nat.zero_le _, by simpa [merged] using hd, hoo, Heap.SameBut.refl _ _⟩
    · rintro x rest b s' ⟨h', i, rfl, hr, hi, hd', hoo', hs'⟩
      have hlt : i < eso.size := by
        rcases Nat.lt_or_ge i eso.size with h | h
        · exact h
        · rw [Nat.sub_eq_zero_of_le h] at hr; simp at hr
      obtain ⟨rfl, hrest⟩ : x = i ∧ rest = List.range' (i + 1) (eso.size - (i + 1)) := by
        have e : eso.size - i = (eso.size - (i + 1)) + 1 := by omega
        rw [e, List.range'_succ] at hr
        injection hr with h1 h2
        exact ⟨h1, h2⟩
      refine wpAny_bind (wpAny_dictEntries hoo' hdo' ?_)
      rw [Array.getElem?_eq_getElem hlt]
      obtain ⟨kv, hkv⟩ : ∃ kv, more[x]? = some kv := ⟨more[x]'(by rw [hlen]; exact hlt), List.getElem?_eq_getElem _⟩
      obtain ⟨k, v⟩ := kv
      obtain ⟨hkey, hval⟩ := hpo.get? (e := eso[x]) (by simp [hlt]) hkv
      obtain ⟨k', hkey', hhash⟩ := hko eso[x] (Array.getElem_mem hlt)
      obtain rfl : k' = k := knd.inj _ _ _ hkey' hkey
      show wpAny _ _ (holding [eso[x].key, eso[x].val] (dictPut d eso[x].hash eso[x].key eso[x].val) >>= _) _ _ _
      rw [hhash, hval]
      have hmx : (merged kvs (more.take x)).length ≤ sizeLine := by
        have e1 := merged_length_le kvs (more.take x)
        have e2 : (more.take x).length ≤ more.length := by rw [List.length_take]; omega
        omega
      refine wpAny_bind (wpAny_holding (qm_put (hsz := hmx) hkey hd' fun h'' hd'' hs'' => ?_))
      have hoo'' : h''.get? o = some oo := (hs''.2 o (Ne.symm hdo)).trans hoo'
      refine wpAny_bind (wpAny_dictEpoch hoo'' hdo' ?_)
      rw [if_neg (by simp)]
      exact wpAny_pure ⟨h'', x + 1, rfl, hrest, hlt, by rw [merged_take_succ kvs more x (k', v) hkv]; exact hd'', hoo'', hs'.trans hs''⟩
    · rintro b s' ⟨h', i, rfl, hr, hi, hd', hoo', hs'⟩
      have hin : i = eso.size := by
        rcases Nat.lt_or_ge i eso.size with h | h
        · have e : eso.size - i = (eso.size - (i + 1)) + 1 := by omega
          rw [e, List.range'_succ] at hr; exact nomatch hr
        · exact Nat.le_antisymm hi h
      refine wpAny_pure (hQ h' ?_ ⟨oo, eso, epo, hoo', hco, hdo', hko, hpo, hno⟩ hs')
      rw [hin, ← hlen, List.take_length] at hd'; exact hd'
  split
  · refine wpAny_bind (wpAny_dictEntries hoo hdo' ?_)
    refine wpAny_bind ?_
    rw [← Array.forIn_toList]
    refine wpAny_forIn_list _ (fun rest _ s' => s' = s ∧ ∀ x ∈ rest, x ∈ eso) _ ?_ ?_ _ _ ⟨rfl, fun x hx => by simpa using hx⟩
    · rintro x rest b s' ⟨rfl, hx⟩
      have hxe := hx x List.mem_cons_self
      obtain ⟨k', hkey', _⟩ := hko x hxe
      split
      · next a ea =>
        rw [ea, hr] at hkey'
        cases hkey'
      · exact wpAny_pure ⟨rfl, fun y hy => hx y (List.mem_cons_of_mem _ hy)⟩
    · rintro b s' ⟨rfl, _⟩
      exact loop
  · exact loop
end
end PySem

namespace Qmg
open PySem PySem.Spec PyProof.Rows L2 TL Qh Qi Ql ClX
/-- {**a, **b}: D the new dict -/
def tMerge (t1 t2 : TE) : TE := fun σ H Q => ∀ D, H D = none → t1 σ (L2.upd H D (.dK [])) fun x H1 => ∃ a us ks, x = .ref a ∧ a ≠ D ∧ H1 D = some (.dK us) ∧ H1 a = some (.dK ks) ∧ us.length + ks.length ≤ 10000 ∧
  t2 σ (L2.upd H1 D (.dK (mergeK us ks))) fun y H2 => ∃ b vs ls, y = .ref b ∧ b ≠ D ∧ H2 D = some (.dK vs) ∧ H2 b = some (.dK ls) ∧ vs.length + ls.length ≤ 10000 ∧ Q (.ref D) (L2.upd H2 D (.dK (mergeK vs ls)))
section
variable {X : Cx} {pins : List (Addr × Obj)} {σ : L2.St} {H : Hp} {s : Shared}
theorem mix_ref {P : Program} {w : World} (k : Key) (a : Addr) : (mixKind P w).is k (.ref a) = false := by
  cases k <;> rfl
theorem d_merge {D a : Addr} {us ks : List (Key × V)} {E : Value → Shared → Prop} {Q : Unit → Shared → Prop} (I : Inv X pins σ H s) (ne : a ≠ D) (hD : H D = some (.dK us)) (ha : H a = some (.dK ks)) (hl : us.length + ks.length ≤ 10000)
    (h : ∀ s', Inv X pins σ (L2.upd H D (.dK (mergeK us ks))) s' → Q () s') : wpAny (model X.prog X.w) X.A (mergeMapping D (.ref a) false) Q E s := by
  obtain ⟨z, hd, vs, rel, dd⟩ := dk_of I.hok hD
  obtain ⟨z2, hd2, vs2, rel2, dd2⟩ := dk_of I.hok ha
  have l1 : us.length = vs.length := rel.length
  have l2 : ks.length = vs2.length := rel2.length
  refine qm_merge (hsz := by rw [sizeLine_eq]; omega) mix_ref ne.symm hd2 dd dd2 fun h' dd' _ hs => h _ ?_
  have he : ∃ q, h'.get? D = some q := let ⟨q, _, _, hq, _⟩ := dd'; ⟨q, hq⟩
  have hz : (mergeK us ks).length ≤ sizeLine := Nat.le_trans (length_mergeK ks us) (Nat.le_trans hl (by rw [sizeLine_eq]; omega))
  exact d_write I (by rw [hD]; exact True.intro) hs he (dk_new hz hd (rel2.merge rel) dd')
theorem pe_merge {e1 e2 : Expr} {t1 t2 : TE} {pos : Pos} (h1 : PE X e1 t1) (h2 : PE X e2 t2) : PE X (.Dict [none, none] [e1, e2] pos) (tMerge t1 t2) := by
  refine ⟨fun pins s σ H Q I h => ?_⟩
  rw [arm_eval_Dict]
  refine wpAny_bind (wpAny_standAt ?_)
  show wpAny _ _ (dictDisplay [(none, do let x ← eval e1 X.env; standAt pos; pure x), (none, do let x ← eval e2 X.env; standAt pos; pure x)]) _ _ _
  unfold dictDisplay
  simp only [List.forIn_cons, List.forIn_nil, List.isEmpty_nil, if_true, pure_bind, bind_assoc]
  generalize hD : s.heap.objs.size = D
  refine wpAny_bind (wpAny_alloc ?_)
  rw [hD]
  have hDn : H D = none := I.hok.fresh (Nat.le_of_eq hD)
  have I1 : Inv X pins σ (L2.upd H D (.dK [])) { s with heap := s.heap.push { cls := .type "dict", data := .dict #[] } } := by
    refine I.laid (t' := s.toks) (fun b o e => Heap.get?_push_of_some _ e) (Nat.le_of_eq hD) ?_
    rw [← hD]
    exact dk_empty s.heap I.big
  have q0 := h D hDn
  refine wpAny_bind (wpAny_holding (wpAny_bind (thn (h1.run pins _ σ _ _ I1 q0) ?_)))
  rintro u s1 ⟨x, H2, I2, rx, a, us, ks, rfl, ne, d1, d2, l1, q1⟩
  obtain rfl : u = Value.ref a := rx
  refine wpAny_bind (wpAny_standAt (wpAny_pure ?_))
  refine wpAny_bind (wpAny_onRaise (wpAny_tryCatch (wpAny_onRaise (wpAny_holding (d_merge I2 ne d1 d2 l1 fun s2 I3 => ?_)))))
  refine wpAny_bind (wpAny_holding (wpAny_bind (thn (h2.run pins _ σ _ _ I3 q1) ?_)))
  rintro u s3 ⟨y, H4, I4, ry, b, vs, ls, rfl, ne2, e1, e2, l2, q2⟩
  obtain rfl : u = Value.ref b := ry
  refine wpAny_bind (wpAny_standAt (wpAny_pure ?_))
  refine wpAny_bind (wpAny_onRaise (wpAny_tryCatch (wpAny_onRaise (wpAny_holding (d_merge I4 ne2 e1 e2 l2 fun s4 I5 => ?_)))))
  exact wpAny_pure ⟨.ref D, _, I5, rfl, q2⟩
/-- {t: v}, t a tuple of ints and texts -/
def tDispT (tk tv : TE) : TE := fun σ H Q => ∀ p, H p = none → tk σ (L2.upd H p (.dT [])) fun x H1 => tv σ H1 fun y H2 => H2 p = some (.dT []) ∧ ∃ b k, x = .ref b ∧ H2 b = some (.tup (k.map kV)) ∧ Q (.ref p) (L2.upd H2 p (.dT [(k, y)]))
theorem pe_dispT {e1 e2 : Expr} {t1 t2 : TE} {pos : Pos} (hu : X.A.units < cLine) (h1 : PE X e1 t1) (h2 : PE X e2 t2) : PE X (.Dict [some e1] [e2] pos) (tDispT t1 t2) := by
  refine ⟨fun pins s σ H Q I q => ?_⟩
  have hn := I.hok.fresh (Nat.le_refl s.heap.objs.size)
  have I1 := I.laid (a := s.heap.objs.size) (o := .dT []) (h' := s.heap.push { cls := .type "dict", data := .dict #[] }) (t' := s.toks) (fun _ _ q => Heap.get?_push_of_some _ q) (Nat.le_refl _) (dt_empty s.heap I.big)
  refine wpAny_Dict_any rfl rfl (by simp) (by show 1 ≤ 15; decide) ?_
  refine pairTrees_cons_walk (thn (h1.run pins _ σ _ _ I1 (q _ hn)) fun u s1 ⟨x, H1, I1, rx, q1⟩ => thn (h2.run pins s1 σ H1 _ I1 q1) fun u2 s2 ⟨y, H2, I2, ry, d, b, k, ex, eb, q2⟩ => pairTrees_nil_walk ?_)
  subst ex
  cases (show u = Value.ref b from rx)
  obtain ⟨z, hd, xs, rel, dd⟩ := dt_of I2.hok d
  cases rel
  show wpAny _ _ (storeAll s.heap.objs.size [(Value.ref b, u2)]) _ _ _
  unfold storeAll
  rw [List.forIn_cons]
  refine wpAny_bind (wpAny_bind (wpAny_dictSet_heap (hsz := Nat.zero_le _) hu (key_of I2.hok eb) dd fun h' dd' hs => wpAny_pure ?_))
  refine wpAny_pure ⟨.ref s.heap.objs.size, _, ?_, rfl, q2⟩
  obtain ⟨o, es, ep, hq, g2, g3, g4, _, g5⟩ := dd'
  refine d_write I2 (by rw [d]; exact True.intro) hs ⟨o, hq⟩ ⟨by rw [sizeLine_eq]; show 1 ≤ 16777216; decide, hd, _, (KT.put (kvs := []) (xs := []) .nil k eb ry).keeps fun c ys ec => ?_, o, es, ep, hq, g2, g3, g4, g5⟩
  rw [upd_ne (ne_of ec d (fun z => nomatch z))]
  exact ec
end
/-! ### o.m(e, ..) where the reading tells the class -/
/-- the class at C has a method m -/
def HasM (P : Program) (w : World) (K : PySem.W.Frag) (mg : Str → Option Value) (base : Heap) (k : Nat) (C : Addr) (m : Str) (sp : Sp) : Prop :=
  Cls K C ∧ ∃ f fd ps, Meth K C m f ∧ FnOk P w K mg base (L2.CX P w) k f fd ps sp ∧ Binds K fd ps []
def tMethD (P : Program) (w : World) (K : PySem.W.Frag) (mg : Str → Option Value) (base : Heap) (k : Nat) (m : Str) (E : L2.St → XK) (ta : TE) (t : TA) : TE := fun σ H Q => ta σ H fun x H1 => ∃ C sp a dx fs, HasM P w K mg base k C m sp ∧ x = .ref a ∧ H1 a = some (.ins C dx fs) ∧ fs.lookup m = none ∧
  t σ H1 fun vs H2 => sp (x :: vs) H2 Q (E σ)
section
variable {X : Cx} {W : WX} {k : Nat} {P : Program} {w : World} {K : PySem.W.Frag} {mg : Str → Option Value} {base : Heap} {m : Str} {o e : Expr} {es : List Expr} {ta : TE} {t : TA} {apos pos : Pos}
theorem pe_methD {pl : Sem Bool} (hX : X.prog = P ∧ X.w = w ∧ X.K = K ∧ X.mg = mg ∧ X.base = base) (he : PE X o ta) (hr : Room k X.A) (tks : Takes X W) (ha : PA X (e :: es) t)
    (hst : starEach (e :: es) X.env = (false, eval e X.env) :: starEach es X.env := by rfl) (hpl : (backTo pos (starEach es X.env)).any (·.1) = false := by rfl)
    (ht : eval (.Call (.Attribute o m apos) (e :: es) [] pos) X.env = (do
      let ov ← eval o X.env
      standAt apos.atName
      let (f, first) ← holding [ov] (getMethod ov m pl)
      callWith pos f first (backTo pos (starEach (e :: es) X.env)) (backToKw pos (keywordEach [] X.env))) := by rfl) :
    PE X (.Call (.Attribute o m apos) (e :: es) [] pos) (tMethD P w K mg base k m (WE W) ta t) := by
  obtain ⟨rfl, rfl, rfl, rfl, rfl⟩ := hX
  refine ⟨fun pins s σ H Q I h => ?_⟩
  refine PySem.W.methodCall_KW (pl := pl) (thn (he.run pins s σ H _ I h) fun u s1 ⟨x, H1, I1, rx, C, sp, a, dx, fs, ⟨c, f, fd, ps, hm, F, hb⟩, ex, ea, l, q⟩ => ?_) ht
  subst ex
  obtain rfl : u = Value.ref a := rx
  refine getmeth_ok I1 ea c hm l ?_
  refine PySem.W.callWith_K (first := [.ref a]) (h₀ := X.base) I.ok.mod.kin hm.kp (thn (ha.run pos pins s1 σ H1 _ I1 q) fun us s2 ⟨vs, H2, I2, r, q2⟩ => ⟨I2.kIn, ?_⟩) hst hpl
  have r2 : Vals (.ref a :: vs) (.ref a :: us) := .cons rfl r
  have hl : (Value.ref a :: us ++ []).length = ps.length := by
    rw [List.append_nil, ← r2.length]
    exact F.len _ _ _ _ q2
  have hbt := hb s2 (.ref a :: us) I2.kIn hl
  rw [List.append_nil] at hbt
  refine wpAny_call (codeAny_mono (F.run X.A X.stack s2 H2 ⟨.ref a :: us, []⟩ (.ref a :: us) (.ref a :: vs) Q (WE W σ) hr I2.env0 hbt r2 q2) ?_)
  rintro (e | fl) s' hq
  · exact passAt tks σ pins H2 s2 e s' I2 hq
  · cases fl with
    | ret u => exact I2.after hq
    | next => exact hq.elim
    | brk => exact hq.elim
    | cont => exact hq.elim
end
end Qmg
set_option Elab.async false
set_option linter.all false
set_option maxRecDepth 100000
set_option maxHeartbeats 4000000
/-! Parts that are never run; {k: v for .. in e for ..} over an e without items. -/
namespace Qde
open PySem PySem.Spec PyProof.Rows L2 TL Qh ClX
def tDeadS : TS := fun _ _ _ => False
def tDeadE : TE := fun _ _ _ => False
section
variable {X : Cx}
theorem pe_dead {e : Expr} : PE X e tDeadE := ⟨fun _ _ _ _ _ _ h => h.elim⟩
theorem pss_dead {st : List Stmt} : PSs X st tDeadS := ⟨fun _ _ _ _ _ _ h => h.elim⟩
theorem pg_tupK {K : PySem.W.Frag} {es : List Expr} {k n : Nat} {t : TGs} {pos : Pos} (hK : X.K = K) (hc : X.calm = true) (h : PGs X es t)
    (hn : (assignEach es X.env).length = n := by rfl) (hst : (assignEach es X.env).findIdx? (·.1) = none := by rfl) : PG X (.Tuple es k pos) (gTup K n t) := by
  subst hK
  exact pg_tup hc h hn hst
/-- the dict that e makes, locked from then on -/
def tLk (td : TE) : TE := fun σ H Q => td σ H fun x H1 => ∃ d kvs, x = .ref d ∧ H1 d = some (.dK kvs) ∧ ∀ o, Q x (L2.upd H1 d (.frz o (.dK kvs)))
theorem pe_lk {e : Expr} {td : TE} (he : PE X e td) : PE X e (tLk td) := by
  refine ⟨fun pins s σ H Q I h => thn (he.run pins s σ H _ I h) fun u s1 ⟨x, H1, I1, r, d, kvs, ex, hd, q⟩ => ?_⟩
  obtain ⟨od, I2⟩ := I1.lock hd True.intro
  exact ⟨x, _, I2, r, q od⟩
/-- a dict comprehension over a walk: Pv by the turn and the heap (the new dict at D within) -/
theorem dc_it {J : It} {n : Nat} {G : Hp → Prop} {Y : Nat → Hp → V → Hp → Prop} (w : Walk J n G Y) {g : TG} {tt : TT} {tk tv : TE} {vs : List Nat} {σ : L2.St} {H1 : Hp} {D : Addr} {Qd : Hp → Prop} (Pv : Nat → Hp → Prop) (h0 : Pv 0 (L2.upd H1 D (.dK []))) (hG : ∀ i H, i ≤ n → Pv i H → G H)
    (hs : ∀ i x H H', i < n → Pv i H → Y i H x H' → g x (wipe σ vs) H' fun σ2 H2 => wipe σ2 vs = wipe σ vs ∧ tt σ2 H2 fun b H3 =>
      if b = true then tk σ2 H3 fun y H4 => tv σ2 H4 fun z H5 => ∃ kvs k, y = kV k ∧ H5 D = some (.dK kvs) ∧ kvs.length < sizeLine ∧ Pv (i + 1) (L2.upd H5 D (.dK (putK kvs k z))) else Pv (i + 1) H3) (hd : ∀ H, Pv n H → Qd H) :
    ∃ W : Nat → Nat → Hp → Prop, (∃ m, W 0 m (L2.upd H1 D (.dK []))) ∧ ∀ i m H, W i m H →
      (J.stop i H ∧ Qd H) ∨ (J.go i H ∧ ∃ Nx : Hp → Prop, (∀ H', Nx H' → ∃ m', m' < m ∧ W (i + 1) m' H') ∧ ∀ x H', J.yld i H x H' → g x (wipe σ vs) H' fun σ2 H2 => wipe σ2 vs = wipe σ vs ∧ tt σ2 H2 fun b H3 =>
        if b = true then tk σ2 H3 fun y H4 => tv σ2 H4 fun z H5 => ∃ kvs k, y = kV k ∧ H5 D = some (.dK kvs) ∧ kvs.length < sizeLine ∧ Nx (L2.upd H5 D (.dK (putK kvs k z))) else Nx H3) := by
  refine ⟨fun i m H => m = n - i ∧ i ≤ n ∧ Pv i H, ⟨n, by simp, Nat.zero_le _, h0⟩, ?_⟩
  rintro i m H ⟨rfl, hi, p⟩
  have q := hG i H hi p
  by_cases hlt : i < n
  · refine .inr ⟨w.goes i H hlt q, Pv (i + 1), fun H' p' => ⟨n - (i + 1), by omega, rfl, hlt, p'⟩, fun x H' y => hs i x H H' hlt p (w.yields i H x H' hlt q y)⟩
  · have e : i = n := by omega
    subst e
    exact .inl ⟨w.stops H q, hd H p⟩
/-- x = {k: v for ..}, stored as the comprehension's last step -/
theorem ps_setDc {i : Nat} {y : Str} {py : Pos} {kx vx tg iter : Expr} {ifs : List Expr} {scope : Scope} {own : List (Str × Nat)} {pos spos : Pos} {wi : TI} {g : TG} {tt : TT} {tk tv : TE} (hc : X.calm = true) (hN : X.N.Nodup) (hy : X.N[i]? = some y) (hyl : X.env.scope.names.lookup y = some .local)
    (hsw : swapsWith (.DictComp kx vx [⟨tg, iter, ifs, 0⟩] scope pos) (some (.Name y py)) spos.line X.env = pure true) (hi : PI X tg iter wi) (ok : BlkOk X.N X.env.scope scope own)
    (hg : ∀ (s : Shared) (H : Hp) (C : Addr) (cl : List (Str × Addr)) (fp : List Addr), PG (X.blk s H scope (compEnvC scope cl C X.env) fp) tg g) (ht : ∀ (s : Shared) (H : Hp) (C : Addr) (cl : List (Str × Addr)) (fp : List Addr), PTs (X.blk s H scope (compEnvC scope cl C X.env) fp) ifs tt)
    (hk : ∀ (s : Shared) (H : Hp) (C : Addr) (cl : List (Str × Addr)) (fp : List Addr), PE (X.blk s H scope (compEnvC scope cl C X.env) fp) kx tk)
    (he : ∀ (s : Shared) (H : Hp) (C : Addr) (cl : List (Str × Addr)) (fp : List Addr), PE (X.blk s H scope (compEnvC scope cl C X.env) fp) vx tv) (hs : ∀ x, foldedSetIterable iter X.env x = pure x := by intro _; rfl) :
    PS X (.Assign [.Name y py] (.DictComp kx vx [⟨tg, iter, ifs, 0⟩] scope pos) spos) (tAsg (tDc wi g tt tk tv (own.map (·.2))) (gName i)) := by
  refine ⟨fun pins s σ H D I h => ?_⟩
  rw [exec_Assign_Name_used _ _ _ _ hsw]
  refine wpAny_bind (wpAny_standAt (wpAny_bind ?_))
  show wpAny _ X.A (do let _ ← comprehension (.DictComp kx vx [⟨tg, iter, ifs, 0⟩] scope pos) scope X.env (firstIterPos [⟨tg, iter, ifs, 0⟩] pos) newDict false (eval iter X.env) (some (assign (.Name y py) X.env))) _ _ s
  have h : tDc wi g tt tk tv (own.map (·.2)) σ H (fun x H1 => gName i x σ H1 D.nx) := h
  refine wpAny_bind (thn (dc_core (Qf := fun _ s' => SP X pins D .next s') hc hN I hi ok hg ht hk he hs h fun L C s' m H' I' q hn f => ?_) fun _ s' hq => wpAny_pure (wpAny_pure hq))
  show wpAny _ _ (assign (.Name y py) X.env (.ref L)) _ _ _
  refine wpAny_assign_Name (store_ok2 (v := V.ref L) I' hN hy (.inl hyl) rfl (fun s2 I2 ⟨a, sb, ha⟩ => ?_) (.inr hyl))
  obtain ⟨f0, f1, f2, f3, f4, f5⟩ := f
  have haC : C ≠ a := by
    rcases ha with z | z
    · rw [z]; exact f1
    · exact fun e => f4 y a z e.symm
  refine ⟨m, hn.sameBut sb haC, fun h3 sb3 => ?_⟩
  exact ⟨_, H', I2.turned (t' := s2.toks) (fun b o hb e => (sb3.2 b hb).trans e) f0 f1 f3 f4 f5, q⟩
theorem sw_trueD {kx vx : Expr} {gs : List Comprehension} {scope : Scope} {pos py : Pos} {y : Str} {l : Nat} {env : Env} (hk : env.scope.kind = .function) (hy : env.scope.names.lookup y = some .local) (hl : (py.line == pos.line) = true)
    (ha : (scope.names.any fun (n, k) => n == y && (k == .local || k == .cell)) = false) : swapsWith (.DictComp kx vx gs scope pos) (some (.Name y py)) l env = pure true := by
  have ky : env.kindOf y = some .local := hy
  have hb : env.blockKind = .function := by unfold Env.blockKind; rw [hk]; rfl
  unfold swapsWith
  simp only [hb, ky, ha, Expr.pos, hl]
  rfl
def tDc0 (wi : TI) : TE := fun σ H Q => wi σ H fun J H1 => ∀ D, H1 D = none → J.stop 0 (L2.upd H1 D (.dK [])) ∧ Q (.ref D) (L2.upd H1 D (.dK []))
theorem compLoop_0 {prog : Program} {w : World} {A : Around} {R : Result → Shared → Prop} {s : Shared} {kx vx target iter : Expr} {ifs : List Expr} {gens : List Comprehension} {scope : Scope} {pos : Pos} {it : Value} {acc : Value} {env : Env}
    (turn : wpAny (model prog w) A (pyNext it) (fun r s₁ => r = none ∧ R (.ok .next) s₁) (notedBy (model prog w) A env fun e s' => R (.error e) s') s) :
    codeAny (model prog w) A (.compLoop (.DictComp kx vx (⟨target, iter, ifs, 0⟩ :: gens) scope pos) 0 it acc env) R s := by
  refine codeAny_loop rfl (fun _ s' => s' = s) (fun n s' hI => ?_) 0 rfl
  subst hI
  show wpAny _ A ((compTurn (.DictComp kx vx (⟨target, iter, ifs, 0⟩ :: gens) scope pos) 0 it acc env).onRaise (fun x => do noteFrame x env; theTreesLotGoes x)) _ _ s'
  refine wpAny_noted ?_
  unfold compTurn
  show wpAny _ _ (standAt _ >>= _) _ _ _
  refine wpAny_bind (wpAny_standAt (wpAny_bind (wpAny_mono turn (fun r s₁ h₁ => ?_) fun _ _ h' => h')))
  obtain ⟨rfl, h⟩ := h₁
  exact wpAny_pure h
theorem pe_dc0 {kx vx tg iter : Expr} {ifs : List Expr} {gens : List Comprehension} {scope : Scope} {own : List (Str × Nat)} {pos : Pos} {wi : TI} (hc : X.calm = true) (hN : X.N.Nodup) (hi : PI X tg iter wi) (ok : BlkOk X.N X.env.scope scope own)
    (hs : ∀ x, foldedSetIterable iter X.env x = pure x := by intro _; rfl) :
    PE X (.DictComp kx vx (⟨tg, iter, ifs, 0⟩ :: gens) scope pos) (tDc0 wi) := by
  refine ⟨fun pins s σ H Q I h => ?_⟩
  rw [arm_eval_DictComp]
  have hfree : ∀ y ∈ scope.names, y.2 = .free → ∃ c, X.env.cells.lookup y.1 = some c := fun y hy e => by
    rcases ok.free y hy e with k | k
    · exact I.ok.has _ (.inl k)
    · exact I.ok.has _ (.inr k)
  refine wpAny_comprehension_free (use := none) rfl hs (closure_ok hfree) ok.kind (fun y hy e => by rw [ok.uniq y hy, e])
    (thn (hi.run pins s σ H _ I h) fun xv s1 hx => thn hx fun itv s2 h2 => ?_)
  obtain ⟨it, fp, tn, J, H2, e, I2, T, st2, f2, q⟩ := h2
  subst e
  refine wpAny_newObj_type (newEnv_comp ?_)
  generalize hD : s2.heap.objs.size = D
  have hDn : H2 D = none := I2.hok.fresh (Nat.le_of_eq hD)
  obtain ⟨stop, qq⟩ := q D hDn
  generalize hs3 : ({ s2 with heap := s2.heap.push { cls := .type "dict", data := .dict #[] } } : Shared) = s3
  have I3 : Inv X pins σ (L2.upd H2 D (.dK [])) s3 := by
    rw [← hs3]
    refine I2.laid (t' := s2.toks) (fun b o e => Heap.get?_push_of_some _ e) (Nat.le_of_eq hD) ?_
    rw [← hD]
    exact dk_empty s2.heap I2.big
  have h3 : s3.heap = s2.heap.push { cls := .type "dict", data := .dict #[] } := by rw [← hs3]
  have sz : ∀ b ∈ fp, b < s2.heap.objs.size := fun b hb => by
    obtain ⟨o, e, _⟩ := T.obj _ _ st2 b hb
    exact Heap.lt_size e
  have f3 : ∀ b ∈ fp, FpOk X pins (L2.upd H2 D (.dK [])) b ∧ b < s3.heap.objs.size := fun b hb => by
    have hlt := sz b hb
    refine ⟨⟨?_, (f2 b hb).2⟩, by rw [h3, Heap.size_push]; exact Nat.lt_succ_of_lt hlt⟩
    rw [upd_ne (by rw [← hD]; exact Nat.ne_of_lt hlt)]
    exact (f2 b hb).1
  have st3 : tn 0 s3.heap := T.keep _ _ _ st2 fun b _ o e => by rw [h3]; exact Heap.get?_push_of_some _ e
  have I4 := block_start I3 ok hN f3
  show codeAny _ _ (.compStart (.DictComp kx vx (⟨tg, iter, ifs, 0⟩ :: gens) scope pos) 0 (.ref it) (.ref D) (compEnvC scope (cellsFrom (s3.heap.objs.size + 1) scope.names (cloFrom X.env.cells scope.names [])) s3.heap.objs.size X.env)) (compPost (model X.prog X.w) X.A X.xe none (EP X pins σ Q) (.ref D) s3.heap.objs.size) { s3 with heap := pushCells (s3.heap.push { cls := .type "dict", data := .dict #[] }) scope.names }
  have nfp : ∀ b ∈ fp, (L2.upd H2 D (.dK [])) b = none := fun b hb => (f3 b hb).1.1
  generalize hce : compEnvC scope (cellsFrom (s3.heap.objs.size + 1) scope.names (cloFrom X.env.cells scope.names [])) s3.heap.objs.size X.env = ce at I4 ⊢
  have cL : ce.locals = s3.heap.objs.size := by subst hce; rfl
  generalize hH3 : L2.upd H2 D (.dK []) = H3 at I3 I4 nfp f3 stop qq
  generalize hs4 : ({ s3 with heap := pushCells (s3.heap.push { cls := .type "dict", data := .dict #[] }) scope.names } : Shared) = s4 at I4 ⊢
  have st4 : tn 0 s4.heap := T.keep _ _ _ st3 fun b _ o e => by rw [← hs4]; exact pushCells_keeps _ _ _ _ (Heap.get?_push_of_some _ e)
  have stat : ∀ {σ' : L2.St} {H' : Hp} {s' : Shared}, Inv (X.blk s3 H3 scope ce fp) [] σ' H' s' → (∀ b ∈ fp, H' b = none) → ∀ b ∈ fp, FpOk (X.blk s3 H3 scope ce fp) [] H' b := fun {σ' H' s'} I' hn b hb =>
    ⟨hn b hb, (I'.ok.exf b hb).1, I'.ok.exfs b hb, .inl hb, fun x c e => (I'.ok.exf b hb).2 x c e, fun p hp => absurd (show p ∈ ([] : List (Addr × Obj)) ++ [] from hp) (by simp)⟩
  have loop : codeAny (model X.prog X.w) X.A (.compLoop (.DictComp kx vx (⟨tg, iter, ifs, 0⟩ :: gens) scope pos) 0 (.ref it) (.ref D) ce) (compPost (model X.prog X.w) X.A X.xe none (EP X pins σ Q) (.ref D) s3.heap.objs.size) s4 := by
    refine compLoop_0 ?_
    have td := T.done (X.blk s3 H3 scope ce fp) rfl rfl rfl hc 0 [] s4 _ H3 (fun _ _ => False) I4 (stat I4 nfp) st4 stop
    refine thnF td fun r s6 ⟨hr, I6⟩ => ?_
    subst hr
    refine ⟨rfl, ?_⟩
    have I7 : Inv X pins σ H3 s6 := I3.call' (ch := fp) I6.os I6.base I6.hok I6.bare fun b hb => ⟨(f3 b hb).1.2.2.2.1, (f3 b hb).1.2.1, (f3 b hb).1.2.2.2.2.1, (f3 b hb).1.2.2.2.2.2⟩
    have nC : H3 s3.heap.objs.size = none := by
      have z : H3 ce.locals = none := I6.free
      rw [cL] at z
      exact z
    obtain ⟨m, hn, _⟩ := I6.loc
    have hn : s6.heap.Ns ce.locals m := hn
    rw [cL] at hn
    refine ⟨m, hn, fun h'' sb => ?_⟩
    obtain ⟨f0, f1, g2, g3, g4, g5⟩ := I3.fpOk (Nat.le_refl _) nC
    exact ⟨.ref D, H3, I7.turned (t' := s6.toks) (fun b o hb e => (sb.2 b hb).trans e) f0 f1 g3 g4 g5, rfl, qq⟩
  exact codeAny_compStart_dict loop (T.self X.A 0 _ _ _ st4 loop)
def tLc0 (wi : TI) : TE := fun σ H Q => wi σ H fun J H1 => ∀ D, H1 D = none → J.stop 0 (L2.upd H1 D (.lst [])) ∧ Q (.ref D) (L2.upd H1 D (.lst []))
theorem compLoopL_0 {prog : Program} {w : World} {A : Around} {R : Result → Shared → Prop} {s : Shared} {elt target iter : Expr} {ifs : List Expr} {gens : List Comprehension} {scope : Scope} {pos : Pos} {it : Value} {acc : Value} {env : Env}
    (turn : wpAny (model prog w) A (pyNext it) (fun r s₁ => r = none ∧ R (.ok .next) s₁) (notedBy (model prog w) A env fun e s' => R (.error e) s') s) :
    codeAny (model prog w) A (.compLoop (.ListComp elt (⟨target, iter, ifs, 0⟩ :: gens) scope pos) 0 it acc env) R s := by
  refine codeAny_loop rfl (fun _ s' => s' = s) (fun n s' hI => ?_) 0 rfl
  subst hI
  show wpAny _ A ((compTurn (.ListComp elt (⟨target, iter, ifs, 0⟩ :: gens) scope pos) 0 it acc env).onRaise (fun x => do noteFrame x env; theTreesLotGoes x)) _ _ s'
  refine wpAny_noted ?_
  unfold compTurn
  show wpAny _ _ (standAt _ >>= _) _ _ _
  refine wpAny_bind (wpAny_standAt (wpAny_bind (wpAny_mono turn (fun r s₁ h₁ => ?_) fun _ _ h' => h')))
  obtain ⟨rfl, h⟩ := h₁
  exact wpAny_pure h
theorem pe_lc0 {elt tg iter : Expr} {ifs : List Expr} {gens : List Comprehension} {scope : Scope} {own : List (Str × Nat)} {pos : Pos} {wi : TI} (hc : X.calm = true) (hN : X.N.Nodup) (hi : PI X tg iter wi) (ok : BlkOk X.N X.env.scope scope own)
    (hs : ∀ x, foldedSetIterable iter X.env x = pure x := by intro _; rfl) :
    PE X (.ListComp elt (⟨tg, iter, ifs, 0⟩ :: gens) scope pos) (tLc0 wi) := by
  refine ⟨fun pins s σ H Q I h => ?_⟩
  rw [eval_ListComp]
  have hfree : ∀ y ∈ scope.names, y.2 = .free → ∃ c, X.env.cells.lookup y.1 = some c := fun y hy e => by
    rcases ok.free y hy e with k | k
    · exact I.ok.has _ (.inl k)
    · exact I.ok.has _ (.inr k)
  refine wpAny_comprehension_free (use := none) rfl hs (closure_ok hfree) ok.kind (fun y hy e => by rw [ok.uniq y hy, e])
    (thn (hi.run pins s σ H _ I h) fun xv s1 hx => thn hx fun itv s2 h2 => ?_)
  obtain ⟨it, fp, tn, J, H2, e, I2, T, st2, f2, q⟩ := h2
  subst e
  refine wpAny_newObj_type (newEnv_comp ?_) (by show 0 ≤ sizeLine; decide)
  generalize hD : s2.heap.objs.size = D
  have hDn : H2 D = none := I2.hok.fresh (Nat.le_of_eq hD)
  obtain ⟨stop, qq⟩ := q D hDn
  generalize hs3 : ({ s2 with heap := s2.heap.push { cls := .type "list", data := .seq ([] : List Value).toArray } } : Shared) = s3
  have I3 : Inv X pins σ (L2.upd H2 D (.lst [])) s3 := by
    rw [← hs3]
    refine I2.laid (t' := s2.toks) (fun b o e => Heap.get?_push_of_some _ e) (Nat.le_of_eq hD) ⟨Nat.zero_le _, [], 0, .nil, ?_⟩
    rw [← hD]
    exact Heap.get?_push_size _ rfl
  have h3 : s3.heap = s2.heap.push { cls := .type "list", data := .seq ([] : List Value).toArray } := by rw [← hs3]
  have sz : ∀ b ∈ fp, b < s2.heap.objs.size := fun b hb => by
    obtain ⟨o, e, _⟩ := T.obj _ _ st2 b hb
    exact Heap.lt_size e
  have f3 : ∀ b ∈ fp, FpOk X pins (L2.upd H2 D (.lst [])) b ∧ b < s3.heap.objs.size := fun b hb => by
    have hlt := sz b hb
    refine ⟨⟨?_, (f2 b hb).2⟩, by rw [h3, Heap.size_push]; exact Nat.lt_succ_of_lt hlt⟩
    rw [upd_ne (by rw [← hD]; exact Nat.ne_of_lt hlt)]
    exact (f2 b hb).1
  have st3 : tn 0 s3.heap := T.keep _ _ _ st2 fun b _ o e => by rw [h3]; exact Heap.get?_push_of_some _ e
  have I4 := block_start I3 ok hN f3
  show codeAny _ _ (.compStart (.ListComp elt (⟨tg, iter, ifs, 0⟩ :: gens) scope pos) 0 (.ref it) (.ref D) (compEnvC scope (cellsFrom (s3.heap.objs.size + 1) scope.names (cloFrom X.env.cells scope.names [])) s3.heap.objs.size X.env)) (compPost (model X.prog X.w) X.A X.xe none (EP X pins σ Q) (.ref D) s3.heap.objs.size) { s3 with heap := pushCells (s3.heap.push { cls := .type "dict", data := .dict #[] }) scope.names }
  have nfp : ∀ b ∈ fp, (L2.upd H2 D (.lst [])) b = none := fun b hb => (f3 b hb).1.1
  generalize hce : compEnvC scope (cellsFrom (s3.heap.objs.size + 1) scope.names (cloFrom X.env.cells scope.names [])) s3.heap.objs.size X.env = ce at I4 ⊢
  have cL : ce.locals = s3.heap.objs.size := by subst hce; rfl
  generalize hH3 : L2.upd H2 D (.lst []) = H3 at I3 I4 nfp f3 stop qq
  generalize hs4 : ({ s3 with heap := pushCells (s3.heap.push { cls := .type "dict", data := .dict #[] }) scope.names } : Shared) = s4 at I4 ⊢
  have st4 : tn 0 s4.heap := T.keep _ _ _ st3 fun b _ o e => by rw [← hs4]; exact pushCells_keeps _ _ _ _ (Heap.get?_push_of_some _ e)
  have stat : ∀ {σ' : L2.St} {H' : Hp} {s' : Shared}, Inv (X.blk s3 H3 scope ce fp) [] σ' H' s' → (∀ b ∈ fp, H' b = none) → ∀ b ∈ fp, FpOk (X.blk s3 H3 scope ce fp) [] H' b := fun {σ' H' s'} I' hn b hb =>
    ⟨hn b hb, (I'.ok.exf b hb).1, I'.ok.exfs b hb, .inl hb, fun x c e => (I'.ok.exf b hb).2 x c e, fun p hp => absurd (show p ∈ ([] : List (Addr × Obj)) ++ [] from hp) (by simp)⟩
  have loop : codeAny (model X.prog X.w) X.A (.compLoop (.ListComp elt (⟨tg, iter, ifs, 0⟩ :: gens) scope pos) 0 (.ref it) (.ref D) ce) (compPost (model X.prog X.w) X.A X.xe none (EP X pins σ Q) (.ref D) s3.heap.objs.size) s4 := by
    refine compLoopL_0 ?_
    have td := T.done (X.blk s3 H3 scope ce fp) rfl rfl rfl hc 0 [] s4 _ H3 (fun _ _ => False) I4 (stat I4 nfp) st4 stop
    refine thnF td fun r s6 ⟨hr, I6⟩ => ?_
    subst hr
    refine ⟨rfl, ?_⟩
    have I7 : Inv X pins σ H3 s6 := I3.call' (ch := fp) I6.os I6.base I6.hok I6.bare fun b hb => ⟨(f3 b hb).1.2.2.2.1, (f3 b hb).1.2.1, (f3 b hb).1.2.2.2.2.1, (f3 b hb).1.2.2.2.2.2⟩
    have nC : H3 s3.heap.objs.size = none := by
      have z : H3 ce.locals = none := I6.free
      rw [cL] at z
      exact z
    obtain ⟨m, hn, _⟩ := I6.loc
    have hn : s6.heap.Ns ce.locals m := hn
    rw [cL] at hn
    refine ⟨m, hn, fun h'' sb => ?_⟩
    obtain ⟨f0, f1, g2, g3, g4, g5⟩ := I3.fpOk (Nat.le_refl _) nC
    exact ⟨.ref D, H3, I7.turned (t' := s6.toks) (fun b o hb e => (sb.2 b hb).trans e) f0 f1 g3 g4 g5, rfl, qq⟩
  exact codeAny_compStart_list loop (T.self X.A 0 _ _ _ st4 loop)
end
/-- C(*y) -/
def tMakeS1 (K : PySem.W.Frag) (C : Addr) (sp : Sp) (E : L2.St → XK) (te : TE) : TE := fun σ H Q => te σ H fun y H1 => ∃ a xs, y = V.ref a ∧ (SqT K H1 a xs ∨ SqL K H1 a xs) ∧ ∀ x dx, H1 x = Option.none → H1 dx = Option.none → dx ≠ x →
  sp (V.ref x :: xs) (L2.upd (L2.upd H1 dx (.own x)) x (.ins C dx [])) (fun v H2 => v = .non ∧ Q (.ref x) H2) (E σ)
section
variable {X : Cx} {W : WX} {k : Nat} {f C : Addr} {sp : Sp} {x : Str} {e : Expr} {te : TE} {p sp_ pos : Pos}
theorem pe_makeS1 (M : Mk X.K C f) (F : FnR X.prog X.w X.K X.mg X.base (L2.CX X.prog X.w) k f sp) (hr : Room (k + 1) X.A) (tk : Takes X W) (hm : X.mg x = some (.ref C)) (he : PE X e te) (hg : Gl X x := by rfl) (hdb : (x == ("__debug__" : Str)) = false := by decide)
    (hst : starEach [.Starred e sp_] X.env = [(true, eval e X.env)] := by rfl) : PE X (.Call (.Name x p) [.Starred e sp_] [] pos) (tMakeS1 X.K C sp (WE W) te) := by
  constructor
  intro pins s σ H Q I h
  refine wpAny_Call_Name_kw (ld_glob I hg hm ?_ hdb)
  refine PySem.W.callWith_S (h₀ := X.base) I.ok.mod.kin M.kp (thn (he.run pins s σ H _ I h) fun v s1 ⟨y, H1, I1, ry, a, xs, ey, hxs, q⟩ => ?_) hst
  subst ey
  obtain rfl : v = Value.ref a := ry
  exact StX.star_any I1 hxs fun us s2 I2 rv => ⟨I2.kIn, Qi.run_makeS M F hr (fun H2 s3 er s' J c => passAt tk σ pins H2 s3 er s' J c) I2 rv q⟩
end
end Qde
set_option Elab.async false
set_option linter.all false
set_option maxRecDepth 100000
set_option maxHeartbeats 4000000
/-! Tables of a function on texts. -/
namespace Qtb
open PySem PySem.Spec PyProof.Rows L2
def tbl (f : Str → V) (ks : List Str) : List (Key × V) := ks.map fun x => ((Sum.inr x : Key), f x)
theorem valV_tbl {f : Str → V} {x : Str} : ∀ ks : List Str, valV (tbl f ks) (.inr x) = if x ∈ ks then some (f x) else none
  | [] => rfl
  | k :: ks => by
    by_cases e : k = x
    · subst e
      rw [if_pos List.mem_cons_self]
      exact valV_pos (p := ((Sum.inr k : Key), f k)) rfl
    · have h : valV (tbl f (k :: ks)) (.inr x) = valV (tbl f ks) (.inr x) := valV_neg (p := ((Sum.inr k : Key), f k)) fun h => e (Sum.inr.inj h)
      rw [h, valV_tbl ks]
      by_cases hx : x ∈ ks
      · rw [if_pos hx, if_pos (List.mem_cons_of_mem _ hx)]
      · rw [if_neg hx, if_neg]
        intro h
        rcases List.mem_cons.mp h with h | h
        · exact e h.symm
        · exact hx h
/-- the table of f on keys that are those of ks -/
def TabIs (f : Str → V) (ks : List Str) (kvs : List (Key × V)) : Prop := ∃ ks', kvs = tbl f ks' ∧ (∀ x, x ∈ ks' ↔ x ∈ ks) ∧ ks'.length ≤ ks.length
theorem TabIs.nil {f : Str → V} : TabIs f [] [] := ⟨[], rfl, fun _ => Iff.rfl, Nat.le_refl _⟩
theorem TabIs.put {f : Str → V} {ks : List Str} {kvs : List (Key × V)} (h : TabIs f ks kvs) (x : Str) : TabIs f (ks ++ [x]) (putK kvs (.inr x) (f x)) := by
  obtain ⟨ks', rfl, hm, hl⟩ := h
  by_cases hx : x ∈ ks'
  · refine ⟨ks', ?_, fun y => ?_, by rw [List.length_append]; omega⟩
    · unfold putK
      rw [valV_any, valV_tbl, if_pos hx, if_pos (show (some (f x)).isSome = true from rfl)]
      conv => rhs; rw [← List.map_id (tbl f ks')]
      refine List.map_congr_left fun p hp => ?_
      obtain ⟨y, _, rfl⟩ := List.mem_map.mp hp
      by_cases e : y = x
      · subst e
        exact if_pos rfl
      · exact if_neg fun h => e (Sum.inr.inj h)
    · rw [hm, List.mem_append, List.mem_singleton]
      refine ⟨fun h => .inl h, fun h => ?_⟩
      rcases h with h | h
      · exact h
      · subst h
        exact (hm y).mp hx
  · refine ⟨ks' ++ [x], ?_, fun y => ?_, by rw [List.length_append, List.length_append]; omega⟩
    · rw [putK_new _ (by rw [valV_tbl, if_neg hx])]
      unfold tbl
      rw [List.map_append]
      rfl
    · rw [List.mem_append, List.mem_append, hm]
theorem TabIs.val {f : Str → V} {ks : List Str} {kvs : List (Key × V)} (h : TabIs f ks kvs) (x : Str) : valV kvs (.inr x) = if x ∈ ks then some (f x) else none := by
  obtain ⟨ks', rfl, hm, _⟩ := h
  rw [valV_tbl]
  by_cases hx : x ∈ ks
  · rw [if_pos hx, if_pos ((hm x).mpr hx)]
  · rw [if_neg hx, if_neg fun h => hx ((hm x).mp h)]
theorem TabIs.len {f : Str → V} {ks : List Str} {kvs : List (Key × V)} (h : TabIs f ks kvs) : kvs.length ≤ ks.length := by
  obtain ⟨ks', rfl, _, hl⟩ := h
  unfold tbl
  rw [List.length_map]
  exact hl
theorem TabIs.at {f : Str → V} {ks : List Str} {kvs : List (Key × V)} (h : TabIs f ks kvs) : ∃ ks', kvs = tbl f ks' ∧ (∀ x, x ∈ ks' ↔ x ∈ ks) ∧ ks'.length ≤ ks.length := h
theorem valV_merge : ∀ (more kvs : List (Key × V)) (k : Key), (∀ p ∈ more, ∀ q ∈ more, p.1 = q.1 → p.2 = q.2) → valV (mergeK kvs more) k = match valV more k with
    | some v => some v
    | none => valV kvs k
  | [], kvs, k, _ => rfl
  | p :: r, kvs, k, h => by
    have ih := valV_merge r (putK kvs p.1 p.2) k fun a ha b hb => h a (List.mem_cons_of_mem _ ha) b (List.mem_cons_of_mem _ hb)
    show valV (mergeK (putK kvs p.1 p.2) r) k = _
    rw [ih, valV_put]
    by_cases e : p.1 = k
    · rw [valV_pos e]
      cases q : valV r k with
      | none => exact if_pos e.symm
      | some v =>
        obtain ⟨z, hz, hz2⟩ := Option.map_eq_some_iff.mp (show (r.find? fun kv => decide (kv.1 = k)).map (·.2) = some v from q)
        have hzk : z.1 = k := by
          have := List.find?_some hz
          exact of_decide_eq_true this
        have : p.2 = z.2 := h p List.mem_cons_self z (List.mem_cons_of_mem _ (List.mem_of_find?_eq_some hz)) (e.trans hzk.symm)
        show some v = some p.2
        rw [this, hz2]
    · rw [valV_neg e]
      cases valV r k with
      | none => exact if_neg fun z => e z.symm
      | some v => rfl
theorem TabIs.merge {f : Str → V} {ks : List Str} {more kvs : List (Key × V)} (h : TabIs f ks more) (x : Str) : valV (mergeK kvs more) (.inr x) = if x ∈ ks then some (f x) else valV kvs (.inr x) := by
  rw [valV_merge]
  · rw [h.val]
    by_cases hx : x ∈ ks
    · rw [if_pos hx, if_pos hx]
    · rw [if_neg hx, if_neg hx]
  · obtain ⟨ks', rfl, _, _⟩ := h
    intro p hp q hq e
    obtain ⟨a, _, rfl⟩ := List.mem_map.mp hp
    obtain ⟨b, _, rfl⟩ := List.mem_map.mp hq
    have e : a = b := Sum.inr.inj e
    subst e
    rfl
theorem nd_putAny {kvs : List (Key × V)} {k : Key} (v : V) (hn : (kvs.map (·.1)).Nodup) : ((putK kvs k v).map (·.1)).Nodup := by
  unfold putK
  split
  · next h =>
    rw [List.map_map]
    have : (kvs.map ((fun x : Key × V => x.1) ∘ fun kv => if kv.1 = k then (kv.1, v) else kv)) = kvs.map (·.1) := List.map_congr_left fun p _ => by
      show (if p.1 = k then (p.1, v) else p).1 = p.1
      split <;> rfl
    rw [this]
    exact hn
  · next h =>
    rw [List.map_append, List.nodup_append]
    refine ⟨hn, by simp, fun x hx y hy e => h ?_⟩
    obtain ⟨p, hp, rfl⟩ := List.mem_map.mp hx
    have hy : y = k := by simpa using hy
    exact List.any_eq_true.mpr ⟨p, hp, decide_eq_true (e.trans hy)⟩
theorem nd_merge : ∀ (more kvs : List (Key × V)), (kvs.map (·.1)).Nodup → ((mergeK kvs more).map (·.1)).Nodup
  | [], _, h => h
  | p :: r, kvs, h => nd_merge r (putK kvs p.1 p.2) (nd_putAny p.2 h)
theorem nd_same {kvs : List (Key × V)} (h : (kvs.map (·.1)).Nodup) : ∀ p ∈ kvs, ∀ q ∈ kvs, p.1 = q.1 → p.2 = q.2 := by
  induction kvs with
  | nil => intro p hp; cases hp
  | cons a r ih =>
    rw [List.map_cons, List.nodup_cons] at h
    intro p hp q hq e
    rcases List.mem_cons.mp hp with e1 | hp'
    · rcases List.mem_cons.mp hq with e2 | hq'
      · rw [e1, e2]
      · exact absurd (List.mem_map.mpr ⟨q, hq', by rw [← e, e1]⟩) h.1
    · rcases List.mem_cons.mp hq with e2 | hq'
      · exact absurd (List.mem_map.mpr ⟨p, hp', by rw [e, e2]⟩) h.1
      · exact ih h.2 p hp' q hq' e
theorem val_copy {kvs : List (Key × V)} (h : (kvs.map (·.1)).Nodup) (k : Key) : valV (mergeK [] kvs) k = valV kvs k := by
  rw [valV_merge kvs [] k (nd_same h)]
  cases valV kvs k <;> rfl
theorem cut_take (xs : List V) (n : Nat) : cutV xs none (some (n : Int)) = xs.take n := by
  unfold cutV
  rw [HT.sIx_none, HT.sIx_nat, List.drop_zero, Nat.sub_zero]
  by_cases h : n ≤ xs.length
  · rw [Nat.min_eq_left h]
  · rw [Nat.min_eq_right (by omega), List.take_of_length_le (Nat.le_refl _), List.take_of_length_le (by omega)]
theorem cut_drop (xs : List V) (n : Nat) : cutV xs (some (n : Int)) none = xs.drop n := by
  unfold cutV
  rw [HT.sIx_nat]
  by_cases h : n ≤ xs.length
  · rw [Nat.min_eq_left h]
    exact List.take_of_length_le (by rw [List.length_drop]; exact Nat.le_refl _)
  · rw [Nat.min_eq_right (by omega), List.drop_of_length_le (Nat.le_refl _), List.drop_of_length_le (by omega)]
    exact List.take_nil
/-- d.get(v, v) -/
def via (kvs : List (Key × V)) : V → V
  | .str z => (valV kvs (.inr z)).getD (.str z)
  | v => v
end Qtb
set_option Elab.async false
set_option linter.all false
set_option maxRecDepth 100000
set_option maxHeartbeats 8000000
namespace K07
open PySem PySem.Spec PyProof.Rows L2 TL Qh Qi Ql ClX Qmk Qmg Qde Qtb
abbrev sChanges : Stmt := top 71
/-- the steps of words -/
inductive WS where
  | stop (ws : List Str)
  | drop (ws : List Str)
  | swap (ps : List (Str × Str))
  | stem (es kk : List Str)
structure C4 where
  S : Addr
  D : Addr
  W : Addr
  M : Addr
def WS.cls (c : C4) : WS → Addr
  | .stop _ => c.S
  | .drop _ => c.D
  | .swap _ => c.W
  | .stem _ _ => c.M
/-- a step that stands at a -/
def WS.at (c : C4) (G : Hp) (a : Addr) : WS → Prop
  | .stop ws => Sp.StepAt c.S G a ws
  | .drop ws => Sp.StepAt c.D G a ws
  | .swap ps => Sw.SwapAt c.W G a ps
  | .stem es kk => Sm.StemAt c.M G a es kk
theorem WS.at.same {c : C4} {G G' : Hp} {a : Addr} {s : WS} (h : s.at c G a) (sm : Same G G') : s.at c G' a := by
  cases s with
  | stop ws => exact Sp.StepAt.same h sm
  | drop ws => exact Sp.StepAt.same h sm
  | swap ps => exact Sw.SwapAt.same h sm
  | stem es kk => exact Sm.StemAt.same h sm
/-- within bounds -/
def WS.ok : WS → Prop
  | .stop ws => ws.length ≤ 20
  | .drop ws => ws.length ≤ 20
  | .swap ps => ps.length ≤ 10 ∧ ∀ p ∈ ps, p.2.length ≤ 1000
  | .stem es kk => es.length ≤ 1000 ∧ ∀ e ∈ es, 1 ≤ e.length ∧ e.length ≤ 1000
def WS.isM : WS → Bool
  | .stem _ _ => true
  | _ => false
def WS.isS : WS → Bool
  | .stop _ => true
  | .drop _ => true
  | _ => false
def WS.isD : WS → Bool
  | .drop _ => true
  | _ => false
def WS.keys : WS → List Str
  | .stop ws => ws
  | .drop ws => ws
  | .swap ps => ps.map (·.1)
  | .stem _ _ => []
/-- what comes out of a word, of a hole or of nothing -/
def WS.res : WS → V → V
  | .stop ws, v => Sp.resV ws (.str Sp.hole) v
  | .drop ws, v => Sp.resV ws .non v
  | .swap ps, v => Sw.resW ps v
  | .stem es kk, v => match v with
    | .str x => .str (Sm.resS es kk x)
    | v => v
def wv (v : V) : Prop := v = .non ∨ ∃ x, v = .str x ∧ x.length ≤ 1000
structure Res (P : Program) (w : World) (K : PySem.W.Frag) (mg : Str → Option Value) (base : Heap) (c : C4) : Prop where
  rs : HasM P w K mg base 1 c.S "result" (Sp.spResult c.S (.str Sp.hole))
  rd : HasM P w K mg base 1 c.D "result" (Sp.spResult c.D .non)
  rw : HasM P w K mg base 1 c.W "result" (Sw.spResult c.W)
  rm : HasM P w K mg base 1 c.M "result" (Sm.spResult c.M)
theorem Res.get {P : Program} {w : World} {K : PySem.W.Frag} {mg : Str → Option Value} {base : Heap} {c : C4} (R : Res P w K mg base c) (s : WS) : ∃ sp, HasM P w K mg base 1 (s.cls c) "result" sp ∧
    ∀ a (G : Hp) (v : V) (Q : VK) (E : XK), s.at c G a → s.ok → wv v → (∀ G', Same G G' → Q (s.res v) G') → sp [.ref a, v] G Q E := by
  cases s with
  | stop ws => exact ⟨_, R.rs, fun a G v Q E h _ hv k => ⟨a, ws, v, rfl, h, (by rcases hv with rfl | ⟨x, rfl, _⟩ <;> rfl), k G (Same.refl G)⟩⟩
  | drop ws => exact ⟨_, R.rd, fun a G v Q E h _ hv k => ⟨a, ws, v, rfl, h, (by rcases hv with rfl | ⟨x, rfl, _⟩ <;> rfl), k G (Same.refl G)⟩⟩
  | swap ps => exact ⟨_, R.rw, fun a G v Q E h _ hv k => ⟨a, ps, v, rfl, h, (fun y => by rcases hv with rfl | ⟨x, rfl, _⟩ <;> rfl), k G (Same.refl G)⟩⟩
  | stem es kk =>
    refine ⟨_, R.rm, fun a G v Q E h ho hv k => ⟨a, es, kk, v, rfl, h, ho.1, ho.2, ?_⟩⟩
    rcases hv with rfl | ⟨x, rfl, hx⟩
    · exact .inl ⟨rfl, k G (Same.refl G)⟩
    · exact .inr ⟨x, rfl, hx, fun G' sm => k G' sm⟩
theorem WS.ins {c : C4} {G : Hp} {a : Addr} {s : WS} (h : s.at c G a) : ∃ dx fs, G a = some (.ins (s.cls c) dx fs) ∧ fs.lookup (Str.ofString "result") = none := by
  cases s with
  | stop ws =>
    obtain ⟨dx, D1, h1, _⟩ := h
    exact ⟨dx, _, h1, rfl⟩
  | drop ws =>
    obtain ⟨dx, D1, h1, _⟩ := h
    exact ⟨dx, _, h1, rfl⟩
  | swap ps =>
    obtain ⟨dx, D1, h1, _⟩ := h
    exact ⟨dx, _, h1, rfl⟩
  | stem es kk =>
    obtain ⟨dx, D1, D2, D3, zs, h1, _⟩ := h
    exact ⟨dx, _, h1, rfl⟩
/-- what isinstance tells of the steps -/
structure Kits (K : PySem.W.Frag) (c : C4) : Prop where
  iS : InsT K c.S
  iD : InsT K c.D
  iW : InsT K c.W
  iM : InsT K c.M
  ss : PySem.W.kitOne K (.ref c.S) (.ref c.S) = some true
  ds : PySem.W.kitOne K (.ref c.D) (.ref c.S) = some true
  ws : PySem.W.kitOne K (.ref c.W) (.ref c.S) = some false
  ms : PySem.W.kitOne K (.ref c.M) (.ref c.S) = some false
  sd : PySem.W.kitOne K (.ref c.S) (.ref c.D) = some false
  dd : PySem.W.kitOne K (.ref c.D) (.ref c.D) = some true
  wd : PySem.W.kitOne K (.ref c.W) (.ref c.D) = some false
  md : PySem.W.kitOne K (.ref c.M) (.ref c.D) = some false
  sm : PySem.W.kitOne K (.ref c.S) (.ref c.M) = some false
  dm : PySem.W.kitOne K (.ref c.D) (.ref c.M) = some false
  wm : PySem.W.kitOne K (.ref c.W) (.ref c.M) = some false
  mm : PySem.W.kitOne K (.ref c.M) (.ref c.M) = some true
section
variable {K : PySem.W.Frag} {c : C4}
theorem Kits.ty (k : Kits K c) {G : Hp} {a : Addr} {s : WS} (h : s.at c G a) : TyX K G (.ref a) (.ref (s.cls c)) := by
  obtain ⟨dx, fs, h1, _⟩ := WS.ins h
  cases s with
  | stop ws => exact k.iS.ty h1
  | drop ws => exact k.iD.ty h1
  | swap ps => exact k.iW.ty h1
  | stem es kk => exact k.iM.ty h1
theorem Kits.isS (k : Kits K c) (s : WS) : PySem.W.kitOne K (.ref (s.cls c)) (.ref c.S) = some s.isS := by
  cases s with
  | stop ws => exact k.ss
  | drop ws => exact k.ds
  | swap ps => exact k.ws
  | stem es kk => exact k.ms
theorem Kits.isD (k : Kits K c) (s : WS) : PySem.W.kitOne K (.ref (s.cls c)) (.ref c.D) = some s.isD := by
  cases s with
  | stop ws => exact k.sd
  | drop ws => exact k.dd
  | swap ps => exact k.wd
  | stem es kk => exact k.md
theorem Kits.isM (k : Kits K c) (s : WS) : PySem.W.kitOne K (.ref (s.cls c)) (.ref c.M) = some s.isM := by
  cases s with
  | stop ws => exact k.sm
  | drop ws => exact k.dm
  | swap ps => exact k.wm
  | stem es kk => exact k.mm
end
theorem WS.keys_len {s : WS} (h : s.ok) (hm : s.isM = false) : s.keys.length ≤ 20 := by
  cases s with
  | stop ws => exact h
  | drop ws => exact h
  | swap ps =>
    obtain ⟨h, _⟩ := h
    show (ps.map _).length ≤ 20
    rw [List.length_map]
    omega
  | stem es kk => cases hm
/-- steps that stand -/
def AllAt (c : C4) (G : Hp) : List Addr → List WS → Prop
  | [], [] => True
  | a :: as, s :: ss => s.at c G a ∧ AllAt c G as ss
  | _, _ => False
theorem AllAt.same {c : C4} {G G' : Hp} (sm : Same G G') : ∀ {as : List Addr} {ss : List WS}, AllAt c G as ss → AllAt c G' as ss
  | [], [], _ => True.intro
  | _ :: _, _ :: _, h => ⟨WS.at.same h.1 sm, AllAt.same sm h.2⟩
  | [], _ :: _, h => h.elim
  | _ :: _, [], h => h.elim
theorem AllAt.len {c : C4} {G : Hp} : ∀ {as : List Addr} {ss : List WS}, AllAt c G as ss → as.length = ss.length
  | [], [], _ => rfl
  | _ :: _, _ :: _, h => congrArg (· + 1) (AllAt.len h.2)
  | [], _ :: _, h => h.elim
  | _ :: _, [], h => h.elim
theorem AllAt.get {c : C4} {G : Hp} : ∀ {as : List Addr} {ss : List WS} {i : Nat} {a : Addr}, AllAt c G as ss → as[i]? = some a → ∃ s, ss[i]? = some s ∧ s.at c G a
  | [], [], _, _, _, e => nomatch e
  | _ :: _, s :: _, 0, _, h, e => ⟨s, rfl, by cases e; exact h.1⟩
  | _ :: as, _ :: ss, i + 1, _, h, e => AllAt.get (as := as) (ss := ss) (i := i) h.2 e
  | [], _ :: _, _, _, h, _ => h.elim
  | _ :: _, [], _, _, h, _ => h.elim
theorem AllAt.take {c : C4} {G : Hp} : ∀ {as : List Addr} {ss : List WS} (n : Nat), AllAt c G as ss → AllAt c G (as.take n) (ss.take n)
  | [], [], n, _ => by rw [List.take_nil, List.take_nil]; exact True.intro
  | _ :: _, _ :: _, 0, _ => True.intro
  | _ :: _, _ :: _, n + 1, h => ⟨h.1, AllAt.take n h.2⟩
  | [], _ :: _, _, h => h.elim
  | _ :: _, [], _, h => h.elim
theorem AllAt.drop {c : C4} {G : Hp} : ∀ {as : List Addr} {ss : List WS} (n : Nat), AllAt c G as ss → AllAt c G (as.drop n) (ss.drop n)
  | [], [], n, _ => by rw [List.drop_nil, List.drop_nil]; exact True.intro
  | _ :: _, _ :: _, 0, h => h
  | _ :: _, _ :: _, n + 1, h => AllAt.drop n h.2
  | [], _ :: _, _, h => h.elim
  | _ :: _, [], _, h => h.elim
/-- one after another -/
def resAll (ss : List WS) (v : V) : V := ss.foldl (fun v s => s.res v) v
def spChanges (c : C4) : Sp := fun vs G Q _ => ∃ (a : Addr) (s : WS), vs = [.ref a] ∧ s.at c G a ∧ s.ok ∧ s.isM = false ∧ (∀ x ∈ s.keys, x.length ≤ 1000) ∧
  ∀ p kvs G', G p = none → Same G G' → G' p = some (.dK kvs) → TabIs (fun x => s.res (.str x)) s.keys kvs → Q (.ref p) G'
section
variable {P : Program} {w : World} {K : PySem.W.Frag} {mg : Str → Option Value} {base : Heap}
theorem scChanges : FnScope ["step", "words", "first", "_", "word"] ["step"] (defScope sChanges) := ⟨rfl, rfl, rfl, by decide +kernel, rfl, by decide +kernel, by decide +kernel⟩
theorem seqL_same {K : PySem.W.Frag} {G G' : Hp} {a : Addr} {xs : List V} (s : Same G G') (h : SqL K G a xs) : SqL K G' a xs := by
  rcases h with h | h
  · rcases h with h | ⟨o, h⟩
    · exact .inl (.inl (s _ _ h))
    · exact .inl (.inr ⟨o, s _ _ h⟩)
  · exact .inr h
theorem changes_tail {c : C4} (R : Res P w K mg base c) {a W : Addr} {s : WS} {G1 : Hp} {Q : VK} {o2 o3 o4 : Option V} (hs : s.at c G1 a) (ok : s.ok) (hm : s.isM = false) (hw : ∀ x ∈ s.keys, x.length ≤ 1000)
    (hW : SqL K G1 W (s.keys.map V.str) ∨ SqT K G1 W (s.keys.map V.str))
    (kQ : ∀ p kvs G', G1 p = none → Same G1 G' → G' p = some (.dK kvs) → TabIs (fun x => s.res (.str x)) s.keys kvs → Q (.ref p) G') :
    tDc (iSeq K (tVar 1)) (gName 4) tYes (tVar 4) (tMethD P w K mg base 1 (Str.ofString "result") (WE fun _ _ _ _ => False) (tVar 0) (tCons (tVar 4) tNil)) [4] [some (.ref a), some (.ref W), o2, o3, o4] G1 Q := by
  have kl := WS.keys_len ok hm
  obtain ⟨sp, hM, hsp⟩ := R.get s
  let Pv : Addr → Nat → Hp → Prop := fun D i G' => Same G1 G' ∧ ∃ kvs, G' D = some (.dK kvs) ∧ TabIs (fun x => s.res (.str x)) (s.keys.take i) kvs
  have step : ∀ D i H, G1 D = none → Pv D i H → ∀ x, (s.keys.map V.str)[i]? = some x → ∃ y, x = .str y ∧ y.length ≤ 1000 ∧ s.at c H a ∧ ∀ H', Same H H' → ∃ kvs, H' D = some (.dK kvs) ∧ kvs.length < sizeLine ∧ Pv D (i + 1) (L2.upd H' D (.dK (putK kvs (.inr y) (s.res (.str y))))) := by
    rintro D i H hD ⟨sm, kvs, hk, ht⟩ x hx
    obtain ⟨y, hy, rfl⟩ := map_at hx
    refine ⟨y, rfl, hw y (List.mem_of_getElem? hy), WS.at.same hs sm, fun H' s2 => ⟨kvs, s2 _ _ hk, ?_, ?_, _, upd_same, ?_⟩⟩
    · have := ht.len
      rw [List.length_take] at this
      exact big_line' (by omega)
    · exact Qh.Same.fresh (sm.trans s2) hD
    · rw [take_get hy]
      exact ht.put y
  have fin : ∀ D, G1 D = none → ∀ G', Pv D s.keys.length G' → Q (.ref D) G' := by
    rintro D hD G' ⟨sm, kvs, hk, ht⟩
    rw [List.take_length] at ht
    exact kQ D kvs G' hD sm hk ht
  have h0 : ∀ D, G1 D = none → Pv D 0 (L2.upd G1 D (.dK [])) := fun D hD => ⟨Same.new hD, [], upd_same, TabIs.nil⟩
  refine ⟨_, rfl, W, rfl, ?_⟩
  rcases hW with h | h
  · refine .inl ⟨⟨_, h⟩, fun D hD => dc_it walk_list (Pv D) (h0 D hD) (fun i G' _ p => seqL_same p.1 h) ?_ (by rw [List.length_map]; exact fin D hD)⟩
    · rintro i x H H' hi p ⟨rfl, hx⟩
      obtain ⟨y, rfl, hy, ha, k⟩ := step D i H' hD p x hx
      obtain ⟨dx, fs, hi2, hl2⟩ := WS.ins ha
      exact ⟨rfl, _, rfl, _, rfl, _, sp, a, dx, fs, hM, rfl, hi2, hl2, _, rfl, hsp a _ _ _ _ ha ok (.inr ⟨y, rfl, hy⟩) fun G2 s2 => by
        obtain ⟨kvs, h1, h2, h3⟩ := k G2 s2
        exact ⟨kvs, .inr y, rfl, h1, h2, h3⟩⟩
  · refine .inr ⟨⟨_, h⟩, fun D hD => dc_it walk_tup (Pv D) (h0 D hD) (fun i G' _ p => seqT_same p.1 h) ?_ (by rw [List.length_map]; exact fin D hD)⟩
    · rintro i x H H' hi p ⟨rfl, hx⟩
      obtain ⟨y, rfl, hy, ha, k⟩ := step D i H' hD p x hx
      obtain ⟨dx, fs, hi2, hl2⟩ := WS.ins ha
      exact ⟨rfl, _, rfl, _, rfl, _, sp, a, dx, fs, hM, rfl, hi2, hl2, _, rfl, hsp a _ _ _ _ ha ok (.inr ⟨y, rfl, hy⟩) fun G2 s2 => by
        obtain ⟨kvs, h1, h2, h3⟩ := k G2 s2
        exact ⟨kvs, .inr y, rfl, h1, h2, h3⟩⟩
theorem ok_changes {c : C4} (D : DefIn K mg "changes_of" sChanges) (B : Blt mg) (TS : Sp.StopC K mg c.S) (IS : Sp.InsW K c.S) (ID : Sp.InsW K c.D) (TW : Sw.SwapC K mg c.W) (R : Res P w K mg base c) (k : Kits K c) :
    Ok P w K mg base "changes_of" (defArgs sChanges) ["step"] 2 (spChanges c) := by
  refine D.ok scChanges (fun vs G Q E h => ?_) (fun _ _ _ _ _ _ us hl => match us, hl with | [_], _ => rfl) (fun f cdv A out t G vs Q E hr h => ?_)
  · obtain ⟨a, s, rfl, _⟩ := h
    rfl
  · obtain ⟨a, s, rfl, hs, ok, hm, hw, kQ⟩ := h
    refine ⟨_, (pss_cons (ps_set (i := 1) scChanges.nd rfl (by first | exact Or.inl rfl | exact Or.inr rfl) (pe_ifExp (pt_val (pe_callB call_isi (by rfl) B.n_isinstance bt_isinstance (pa_cons (pv 0) (pa_cons (pe_glob (v := .ref c.S) rfl TS.g rfl) pa_nil)))) (pe_fld (pv 0) rfl) (pe_lc (own := [("first", 2), ("_", 3)]) (tt := tYes) rfl scChanges.nd (pi_tup (pe_fld (pv 0) rfl)) (blkOk_by (N := ["step", "words", "first", "_", "word"]) (sc := defScope sChanges) (by decide +kernel)) (fun _ _ _ _ _ => pg_tupK (K := K) (n := 2) rfl rfl (pgs_cons (pg_name (i := 2) scChanges.nd rfl (by first | exact Or.inl rfl | exact Or.inr rfl)) (pgs_cons (pg_name (i := 3) scChanges.nd rfl (by first | exact Or.inl rfl | exact Or.inr rfl)) pgs_nil))) (fun _ _ _ _ _ => pts_nil) (fun _ _ _ _ _ => (pv 2)))))
    (pss_one (ps_ret (pe_dc (own := [("word", 4)]) (tt := tYes) rfl scChanges.nd (pi_seq (pv 1)) (blkOk_by (N := ["step", "words", "first", "_", "word"]) (sc := defScope sChanges) (by decide +kernel)) (fun _ _ _ _ _ => pg_name (i := 4) scChanges.nd rfl (by first | exact Or.inl rfl | exact Or.inr rfl)) (fun _ _ _ _ _ => pts_nil) (fun _ _ _ _ _ => (pv 4)) (fun _ _ _ _ _ => (pe_methD (P := P) (w := w) (K := K) (mg := mg) (base := base) (k := 1) ⟨rfl, rfl, rfl, rfl, rfl⟩ (pv 0) (hr.mono (by decide)) takes0 (pa_cons (pv 4) pa_nil))))))), ?_⟩
    refine ⟨_, rfl, _, _, _, _, _, rfl, .own c.S, k.ty hs, k.isS s, _, rfl, ?_⟩
    refine ite2 (fun h1 => ?_) (fun h1 => ?_)
    · cases s with
      | stop ws =>
        obtain ⟨dx, D1, i1, i2⟩ := id hs
        refine ⟨_, rfl, a, c.S, dx, _, _, rfl, i1, IS.cl, IS.n1, rfl, ?_⟩
        exact changes_tail R hs ok hm hw (.inr (SqT.of i2)) kQ
      | drop ws =>
        obtain ⟨dx, D1, i1, i2⟩ := id hs
        refine ⟨_, rfl, a, c.D, dx, _, _, rfl, i1, ID.cl, ID.n1, rfl, ?_⟩
        exact changes_tail R hs ok hm hw (.inr (SqT.of i2)) kQ
      | swap ps => cases h1
      | stem es kk => cases h1
    · cases s with
      | stop ws => exact absurd rfl h1
      | drop ws => exact absurd rfl h1
      | stem es kk => cases hm
      | swap ps =>
        obtain ⟨dx, D1, i1, as, i2, i3⟩ := id hs
        have il := i3.len
        refine ⟨_, rfl, a, c.W, dx, _, _, rfl, i1, TW.cl, TW.n1, rfl, D1, rfl, ⟨_, SqT.of i2⟩, fun L hL => lc_it walk_tup (fun i G' => Same G G' ∧ G' L = some (.lst ((ps.take i).map fun p => V.str p.1))) ⟨Same.new hL, by rw [upd_same]; rfl⟩ (fun i G' _ p => SqT.of (p.1 _ _ i2)) ?_ ?_⟩
        · rintro i x G1 G2 hi ⟨sm, hl⟩ ⟨rfl, hx⟩
          obtain ⟨ai, hai, rfl⟩ := map_at hx
          obtain ⟨p, hp, hq⟩ := i3.at hai
          refine ⟨ai, _, rfl, SqT.of (sm _ _ hq), rfl, _, _, rfl, _, _, rfl, rfl, rfl, _, rfl, _, hl, ?_, Qh.Same.fresh sm hL, ?_⟩
          · rw [List.length_map, List.length_take]
            have := ok.1
            exact big_line' (by omega)
          · rw [upd_same, take_get hp, List.map_append]
            rfl
        · rintro G1 ⟨sm, hl⟩
          rw [List.length_map, il, List.take_length] at hl
          have hl : G1 L = some (.lst ((WS.swap ps).keys.map V.str)) := by
            rw [hl]
            show _ = some (HO.lst ((ps.map (·.1)).map V.str))
            rw [List.map_map]
            rfl
          exact changes_tail R (WS.at.same hs sm) ok hm hw (.inl (SqL.of hl)) fun p kvs G' hp s2 => kQ p kvs G' (sm.free hp) (sm.trans s2)
end
end K07
set_option Elab.async false
set_option linter.all false
set_option maxRecDepth 100000
set_option maxHeartbeats 4000000
/-! Facts about own error classes, by one bit each. -/
namespace Qh
open PySem PySem.Spec PyProof.Rows L2
def oexB (K : PySem.W.Frag) (C : Addr) : Bool := match K.lookup C with
  | some ⟨.type "type", _, .cls cd, sl⟩ => (match cd.mro, sl.toList with
    | .ref C' :: bm, [_, _, _, _, some (.builtin n), _] => ((C' == C && n == "ValueError.__new__") && (!cd.hasDel && cd.hasDict)) && PySem.HandSPX.refsVE bm
    | _, _ => false)
  | _ => false
def oex2B (K : PySem.W.Frag) (C : Addr) : Bool := decide (PySem.W.findIn K (.ref C) "__setattr__" = some (some (.builtin "object.__setattr__"))) && (decide (PySem.W.typeIn K (.ref C) = some (.type "type")) && PySem.W.keepIn K (.ref C))
def ecB (K : PySem.W.Frag) (C : Addr) : Bool := decide (PySem.W.findIn K (.ref C) "__class__" = some (some (.builtin "object.__class__"))) && (decide (PySem.W.specialIn K (.builtin "object.__class__") "__get__" = some (some (.builtin "getset_descriptor.__get__"))) && (decide (PySem.W.takesIn K (.builtin "object.__class__") = some true) && decide (PySem.W.mroIn K C (.type "object") = some true)))
theorem oexB_ok {K : PySem.W.Frag} {C : Addr} (q : oexB K C = true) : ∃ nm q N bs bm sn sub ab col dd k0 k1 k2 k3 k5, K.lookup C = some (excClassObj nm q C N bs bm true sn sub ab col dd k0 k1 k2 k3 k5 "ValueError.__new__") ∧ PySem.HandSPX.refsVE bm = true := by
  unfold oexB at q
  split at q
  · rename_i dd cd sl ho
    split at q
    · rename_i C' bm k0 k1 k2 k3 n k5 hm hs
      simp only [Bool.and_eq_true, beq_iff_eq, Bool.not_eq_true'] at q
      obtain ⟨⟨⟨rfl, rfl⟩, hdel, hdct⟩, ht⟩ := q
      obtain ⟨nm, bs, mro, ns, qn, hd, sn, sub, ab, col, del⟩ := cd
      dsimp only at hm hdel hdct
      subst hm hdel hdct
      have hsl : sl = #[k0, k1, k2, k3, some (.builtin "ValueError.__new__"), k5] := by
        obtain ⟨l⟩ := sl
        simp only at hs
        rw [hs]
      subst hsl
      exact ⟨nm, qn, ns, bs, bm, sn, sub, ab, col, dd, k0, k1, k2, k3, k5, ho, ht⟩
    · cases q
  · cases q
theorem errC_of {K : PySem.W.Frag} {mg : Str → Option Value} {x : Str} {C : Addr} (g : mg x = some (.ref C)) (h1 : oexB K C = true) (h2 : oex2B K C = true) (h3 : xfB K C = true) (h4 : ecB K C = true) : ErrC K mg x C := by
  obtain ⟨a1, a2⟩ := Bool.and_eq_true_iff.mp h2
  obtain ⟨a2, a3⟩ := Bool.and_eq_true_iff.mp a2
  obtain ⟨b1, b2⟩ := Bool.and_eq_true_iff.mp h4
  obtain ⟨b2, b3⟩ := Bool.and_eq_true_iff.mp b2
  obtain ⟨b3, b4⟩ := Bool.and_eq_true_iff.mp b3
  have X := xfB_ok h3
  exact ⟨g, ⟨oexB_ok h1, of_decide_eq_true a1, X.exC, of_decide_eq_true a2, a3⟩, X, ⟨X.ga, X.gg, X.exC, X.hdC, of_decide_eq_true b1, of_decide_eq_true b2, of_decide_eq_true b3, of_decide_eq_true b4⟩⟩
/-- the module's names that are not bound by it -/
def freeB (K : PySem.W.Frag) (xs : List Str) : Bool := xs.all fun x => decide (PySem.W.nsIn K mainGlobals x = some none)
theorem freeB_ok {K : PySem.W.Frag} {h : Heap} {mg : Str → Option Value} (X : K.In h) (G : h.Ns mainGlobals mg) {xs : List Str} (c : freeB K xs = true) {x : Str} (hx : x ∈ xs) : mg x = none :=
  PySem.W.mg_none_of X G (of_decide_eq_true (List.all_eq_true.mp c x hx))
abbrev bltNames : List Str := ["len", "int", "abs", "list", "tuple", "range", "repr", "all", "any", "isinstance", "str", "bool", "dict", "set", "sorted", "enumerate", "zip", "max", "sum", "min", "reversed"]
theorem blt_of {K : PySem.W.Frag} {h : Heap} {mg : Str → Option Value} (X : K.In h) (G : h.Ns mainGlobals mg) (c : freeB K bltNames = true) : Blt mg := by
  have f := fun {x : Str} (hx : x ∈ bltNames) => freeB_ok X G c hx
  exact ⟨f (by decide +kernel), f (by decide +kernel), f (by decide +kernel), f (by decide +kernel), f (by decide +kernel), f (by decide +kernel), f (by decide +kernel), f (by decide +kernel), f (by decide +kernel), f (by decide +kernel), f (by decide +kernel), f (by decide +kernel), f (by decide +kernel), f (by decide +kernel), f (by decide +kernel), f (by decide +kernel), f (by decide +kernel), f (by decide +kernel), f (by decide +kernel), f (by decide +kernel), f (by decide +kernel)⟩
end Qh
set_option Elab.async false
set_option linter.all false
set_option maxRecDepth 100000
set_option maxHeartbeats 8000000
namespace K07
open PySem PySem.Spec PyProof.Rows L2 TL Qh Qi Ql ClX Qmk Qmg Qde Qtb RT
abbrev sComposed : Stmt := top 72
/-- a table that does what the steps do -/
def TabOf (kvs : List (Key × V)) (ss : List WS) : Prop := ∀ x : Str, (valV kvs (.inr x)).getD (.str x) = resAll ss (.str x)
/-- a step of words without endings, within bounds -/
def Plain (s : WS) : Prop := s.ok ∧ s.isM = false ∧ ∀ x ∈ s.keys, x.length ≤ 1000
def spComposed (K : PySem.W.Frag) (c : C4) : Sp := fun vs G Q _ => ∃ (a : Addr) (as : List Addr) (ss : List WS), vs = [.ref a] ∧ (SqL K G a (as.map V.ref) ∨ SqT K G a (as.map V.ref)) ∧ AllAt c G as ss ∧ (∀ s ∈ ss, Plain s) ∧ ss.length ≤ 10 ∧
  ∀ p kvs G', G p = none → Same G G' → G' p = some (.dK kvs) → TabOf kvs ss → Q (.ref p) G'
theorem inV_non : ∀ l : List Str, inV .non (l.map V.str) = false
  | [] => rfl
  | _ :: l => inV_non l
theorem inV_txt (y : Str) (l : List Str) : inV (.str y) (l.map V.str) = decide (y ∈ l) := Sm.inV_strs y l
theorem WS.res_non (s : WS) : s.res .non = .non := by
  cases s with
  | stop ws =>
    show Sp.resV ws _ .non = .non
    unfold Sp.resV
    rw [inV_non]
    rfl
  | drop ws =>
    show Sp.resV ws _ .non = .non
    unfold Sp.resV
    rw [inV_non]
    rfl
  | swap ps =>
    show Sw.resW ps .non = .non
    unfold Sw.resW
    rw [List.find?_eq_none.mpr fun p _ => by rw [decide_eq_false (fun h => nomatch h)]; exact Bool.false_ne_true]
  | stem es kk => rfl
theorem resAll_non : ∀ ss : List WS, resAll ss .non = .non
  | [] => rfl
  | s :: ss => by
    show resAll ss (s.res .non) = .non
    rw [WS.res_non]
    exact resAll_non ss
theorem WS.res_not {s : WS} (hm : s.isM = false) {x : Str} (hx : ¬ x ∈ s.keys) : s.res (.str x) = .str x := by
  cases s with
  | stop ws =>
    show Sp.resV ws _ (.str x) = .str x
    unfold Sp.resV
    rw [inV_txt, decide_eq_false (show ¬ x ∈ ws from hx)]
    rfl
  | drop ws =>
    show Sp.resV ws _ (.str x) = .str x
    unfold Sp.resV
    rw [inV_txt, decide_eq_false (show ¬ x ∈ ws from hx)]
    rfl
  | swap ps =>
    show Sw.resW ps (.str x) = .str x
    unfold Sw.resW
    rw [List.find?_eq_none.mpr fun p hp => by rw [decide_eq_false (fun h => hx (List.mem_map.mpr ⟨p, hp, V.str.inj h⟩))]; exact Bool.false_ne_true]
  | stem es kk => cases hm
theorem WS.res_or {s : WS} (x : Str) : s.res (.str x) = .non ∨ ∃ z, s.res (.str x) = .str z := by
  cases s with
  | stop ws =>
    show Sp.resV ws _ (.str x) = .non ∨ ∃ z, Sp.resV ws _ (.str x) = .str z
    unfold Sp.resV
    split
    · exact .inr ⟨_, rfl⟩
    · exact .inr ⟨_, rfl⟩
  | drop ws =>
    show Sp.resV ws _ (.str x) = .non ∨ ∃ z, Sp.resV ws _ (.str x) = .str z
    unfold Sp.resV
    split
    · exact .inl rfl
    · exact .inr ⟨_, rfl⟩
  | swap ps =>
    show Sw.resW ps (.str x) = .non ∨ ∃ z, Sw.resW ps (.str x) = .str z
    unfold Sw.resW
    split
    · exact .inr ⟨_, rfl⟩
    · exact .inr ⟨_, rfl⟩
  | stem es kk => exact .inr ⟨_, rfl⟩
/-- a step ahead of a table -/
theorem TabOf.ahead {s : WS} {rest : List WS} {kvs mk : List (Key × V)} (hm : s.isM = false) (nd : (kvs.map (·.1)).Nodup) (h : TabOf kvs rest) (ht : TabIs (fun y => via kvs (s.res (.str y))) s.keys mk) : TabOf (mergeK (mergeK [] kvs) mk) (s :: rest) := by
  intro x
  rw [ht.merge, val_copy nd]
  show _ = resAll rest (s.res (.str x))
  by_cases hx : x ∈ s.keys
  · rw [if_pos hx]
    show via kvs (s.res (.str x)) = _
    rcases WS.res_or (s := s) x with e | ⟨z, e⟩
    · rw [e, resAll_non]
      rfl
    · rw [e]
      exact h z
  · rw [if_neg hx, WS.res_not hm hx]
    exact h x
abbrev comN : List Str := ["steps", "table", "step", "made", "word", "value"]
section
variable {P : Program} {w : World} {K : PySem.W.Frag} {mg : Str → Option Value} {base : Heap}
theorem scComposed : FnScope comN ["steps"] (defScope sComposed) := ⟨rfl, rfl, rfl, by decide +kernel, rfl, by decide +kernel, by decide +kernel⟩
theorem ok_composed {c : C4} (D : DefIn K mg "composed" sComposed) (B : Blt mg) (F_changes : Ok P w K mg base "changes_of" (defArgs sChanges) ["step"] 2 (spChanges c)) :
    Ok P w K mg base "composed" (defArgs sComposed) ["steps"] 3 (spComposed K c) := by
  refine D.ok scComposed (fun vs G Q E h => ?_) (fun _ _ _ _ _ _ us hl => match us, hl with | [_], _ => rfl) (fun f cdv A out t G vs Q E hr h => ?_)
  · obtain ⟨a, as, ss, rfl, _⟩ := h
    rfl
  · obtain ⟨a, as, ss, rfl, ha, hs, hp, hl, kQ⟩ := h
    have hu1 := Nat.lt_of_le_of_lt (Nat.add_le_add_left (show 1 ≤ 64 by decide) _) hr.units
    refine ⟨_, (pss_cons (ps_set (i := 1) scComposed.nd rfl (by first | exact Or.inl rfl | exact Or.inr rfl) pe_dnewK)
    (pss_cons (ps_for (passes_of rfl) rfl (pi_revA (by rfl) B.n_reversed (pe_callTy cn_list (by rfl) B.n_list bt_list (pa_cons (pv 0) pa_nil))) (pg_name (i := 2) scComposed.nd rfl (by first | exact Or.inl rfl | exact Or.inr rfl))
      (pss_cons (ps_setDc (i := 3) (own := [("word", 4), ("value", 5)]) (tt := tYes) rfl scComposed.nd rfl rfl (sw_trueD rfl rfl rfl (by decide +kernel)) (pi_items (pe_lk (pe_own F_changes (hr.mono (by decide)) takes0 (pa_cons (pv 2) pa_nil)))) (blkOk_by (N := comN) (sc := defScope sComposed) (by decide +kernel)) (fun _ _ _ _ _ => pg_tupK (K := K) (n := 2) rfl rfl (pgs_cons (pg_name (i := 4) scComposed.nd rfl (by first | exact Or.inl rfl | exact Or.inr rfl)) (pgs_cons (pg_name (i := 5) scComposed.nd rfl (by first | exact Or.inl rfl | exact Or.inr rfl)) pgs_nil))) (fun _ _ _ _ _ => pts_nil) (fun _ _ _ _ _ => pv 4) (fun _ _ _ _ _ => pe_dget2N hu1 (pv 1) (pv 5) (pv 5) ⟨rfl, rfl, rfl, rfl⟩))
      (pss_one (ps_set (i := 1) scComposed.nd rfl (by first | exact Or.inl rfl | exact Or.inr rfl) (pe_merge (pv 1) (pv 3))))))
    (pss_one (ps_ret (pv 1))))), ?_⟩
    have al : as.length = ss.length := hs.len
    refine fun D0 hD0 => ⟨_, rfl, a, as.map V.ref, rfl, ha.elim (fun h => .inl (seqL_same (Same.new hD0) h)) (fun h => .inr (seqT_same (Same.new hD0) h)), fun l G1 nl s1 hl1 => ?_⟩
    have s0 : Same G G1 := (Same.new hD0).trans s1
    refine ⟨l, as.map V.ref, rfl, .inl ⟨SqL.of hl1, for_it walk_rev (fun i σ' G' => ∃ T kvs o2 o3 o4 o5, σ' = [some (.ref a), some (.ref T), o2, o3, o4, o5] ∧ Same G1 G' ∧ G T = none ∧ G' T = some (.dK kvs) ∧ (kvs.map (·.1)).Nodup ∧ TabOf kvs (ss.drop (ss.length - i)) ∧ kvs.length ≤ 20 * i)
      ⟨D0, [], none, none, none, none, rfl, Same.refl G1, hD0, s1 _ _ upd_same, List.nodup_nil, by rw [Nat.sub_zero, List.drop_length]; exact fun x => rfl, Nat.le_refl _⟩ (fun i σ' G' _ ⟨_, _, _, _, _, _, _, sm, _⟩ => SqL.of (sm _ _ hl1)) ?_ ?_⟩⟩
    · rintro i v σ1 G2 G3 hi ⟨T, kvs, o2, o3, o4, o5, rfl, sm, hT, hk, nd, tab, len⟩ ⟨rfl, hx⟩
      rw [List.length_map, al] at hi hx
      obtain ⟨ai, hai, rfl⟩ := map_at hx
      obtain ⟨s, hsi, hat⟩ := hs.get hai
      obtain ⟨ok, hm, hw⟩ := hp s (List.mem_of_getElem? hsi)
      have drop_eq : ss.drop (ss.length - (i + 1)) = s :: ss.drop (ss.length - i) := by
        have e1 : ss.length - (i + 1) = ss.length - 1 - i := by omega
        have e2 : ss.length - i = (ss.length - 1 - i) + 1 := by omega
        rw [e1, e2]
        have hlt : ss.length - 1 - i < ss.length := by omega
        rw [List.drop_eq_getElem_cons hlt]
        congr 1
        rw [List.getElem?_eq_getElem hlt] at hsi
        exact Option.some.inj hsi
      refine ⟨_, rfl, ai, s, rfl, WS.at.same hat (s0.trans sm), ok, hm, hw, fun p ckvs G4 np s4 hp4 tabIs => ?_⟩
      obtain ⟨ks', rfl, hmem, hlen⟩ := tabIs
      have pT : p ≠ T := fun z => by
        rw [z, hk] at np
        cases np
      have kl := WS.keys_len ok hm
      have k4 : G4 T = some (.dK kvs) := s4 _ _ hk
      refine ⟨p, _, rfl, hp4, fun o => ⟨p, o, _, rfl, upd_same, fun Dm hDm => ?_⟩⟩
      have sF : Same G3 (L2.upd G4 p (.frz o (.dK (tbl (fun x => s.res (.str x)) ks')))) := fun b ob eb => by
        have : b ≠ p := fun z => by
          rw [z, np] at eb
          cases eb
        rw [upd_ne this]
        exact s4 _ _ eb
      generalize hGF : L2.upd G4 p (.frz o (.dK (tbl (fun x => s.res (.str x)) ks'))) = GF at sF hDm ⊢
      have kF : GF T = some (.dK kvs) := sF _ _ hk
      have pF : GF p = some (.frz o (.dK (tbl (fun x => s.res (.str x)) ks'))) := by rw [← hGF, upd_same]
      have tl : (tbl (fun x => s.res (.str x)) ks').length = ks'.length := List.length_map _
      refine dc_it walk_items (fun j G' => Same GF G' ∧ ∃ mk, G' Dm = some (.dK mk) ∧ TabIs (fun y => via kvs (s.res (.str y))) (ks'.take j) mk) ⟨Same.new hDm, [], upd_same, TabIs.nil⟩ (fun j G' _ h => h.1 _ _ pF) ?_ ?_
      · rintro j y H1 H2 hj ⟨s5, mk, hmk, tmk⟩ ⟨Tp, y1, y2, rfl, nTp, rfl, hy1, hy2⟩
        obtain ⟨en, hen, rfl⟩ := Option.map_eq_some_iff.mp hy1
        have hy2 : (tbl (fun x => s.res (.str x)) ks')[j]?.map Prod.snd = some y2 := hy2
        rw [hen] at hy2
        cases hy2
        obtain ⟨z, hz, rfl⟩ := map_at hen
        have s6 : Same GF (L2.upd H1 Tp (.tup [kV (Sum.inr z), s.res (.str z)])) := s5.trans (Same.new nTp)
        have kT := s6 _ _ kF
        have kDm : L2.upd H1 Tp (.tup [kV (Sum.inr z), s.res (.str z)]) Dm = some (.dK mk) := by
          rw [upd_ne (fun z => by rw [z, nTp] at hmk; cases hmk)]
          exact hmk
        have next : ∀ v, v = via kvs (s.res (.str z)) → ∃ kv2 k2, kV (Sum.inr z) = kV k2 ∧ L2.upd H1 Tp (.tup [kV (Sum.inr z), s.res (.str z)]) Dm = some (.dK kv2) ∧ kv2.length < sizeLine ∧
            (Same GF (L2.upd (L2.upd H1 Tp (.tup [kV (Sum.inr z), s.res (.str z)])) Dm (.dK (putK kv2 k2 v))) ∧ ∃ mk, (L2.upd (L2.upd H1 Tp (.tup [kV (Sum.inr z), s.res (.str z)])) Dm (.dK (putK kv2 k2 v))) Dm = some (.dK mk) ∧ TabIs (fun y => via kvs (s.res (.str y))) (ks'.take (j + 1)) mk) := fun v hv => by
          refine ⟨mk, .inr z, rfl, kDm, ?_, Qh.Same.fresh s6 hDm, _, upd_same, ?_⟩
          · have := tmk.len
            rw [List.length_take] at this
            exact big_line' (by omega)
          · rw [take_get hz, hv]
            exact tmk.put z
        refine ⟨Tp, _, rfl, SqT.of upd_same, rfl, _, _, rfl, _, _, rfl, rfl, rfl, _, rfl, _, rfl, T, rfl, .inl ⟨kvs, .inl kT⟩, _, rfl, _, rfl, ?_⟩
        rcases WS.res_or (s := s) z with e | ⟨u, e⟩
        · refine .inl ⟨e, ⟨kvs, .inl kT⟩, next _ ?_⟩
          show s.res (.str z) = _
          rw [e]
          rfl
        · refine .inr ⟨valV kvs (.inr u), ?_, next _ ?_⟩
          · show DGet _ T (s.res (.str z)) _
            rw [e]
            exact DGet.k (k := .inr u) kT
          · show (valV kvs (.inr u)).getD (s.res (.str z)) = _
            rw [e]
            rfl
      · rintro H1 ⟨s5, mk, hmk, tmk⟩
        rw [tl, List.take_length] at tmk
        have kT := s5 _ _ kF
        have tm2 : TabIs (fun y => via kvs (s.res (.str y))) s.keys mk := by
          obtain ⟨k2, e2, m2, l2⟩ := tmk
          exact ⟨k2, e2, fun x => (m2 x).trans (hmem x), Nat.le_trans l2 hlen⟩
        have ml := tm2.len
        refine fun D2 hD2 => ?_
        have n1 : T ≠ D2 := fun z => by
          rw [← z, kT] at hD2
          cases hD2
        have n2 : Dm ≠ D2 := fun z => by
          rw [← z, hmk] at hD2
          cases hD2
        have cl := length_mergeK kvs []
        rw [List.length_nil] at cl
        refine ⟨_, rfl, T, [], kvs, rfl, n1, upd_same, (by rw [upd_ne n1]; exact kT), (by show 0 + kvs.length ≤ 10000; omega), _, rfl, Dm, _, mk, rfl, n2, upd_same, (by rw [upd_ne n2, upd_ne n2]; exact hmk), (by omega), ?_⟩
        have sE : Same G1 (L2.upd (L2.upd (L2.upd H1 D2 (.dK [])) D2 (.dK (mergeK [] kvs))) D2 (.dK (mergeK (mergeK [] kvs) mk))) := fun b ob eb => by
          have hb := (sm.trans (sF.trans s5)) _ _ eb
          have : b ≠ D2 := fun z => by
            rw [z, hD2] at hb
            cases hb
          rw [upd_ne this, upd_ne this, upd_ne this]
          exact hb
        refine ⟨D2, _, _, _, _, _, rfl, sE, ?_, upd_same, nd_merge _ _ (nd_merge _ _ List.nodup_nil), ?_, ?_⟩
        · exact (s0.trans (sm.trans (sF.trans s5))).free hD2
        · rw [drop_eq]
          exact TabOf.ahead hm nd tab tm2
        · have := length_mergeK mk (mergeK [] kvs)
          omega
    · rintro σ1 G2 ⟨T, kvs, o2, o3, o4, o5, rfl, sm, hT, hk, nd, tab, len⟩
      rw [List.length_map, al, Nat.sub_self, List.drop_zero] at tab
      exact ⟨_, rfl, kQ T kvs G2 hT (s0.trans sm) hk tab⟩
end
end K07
set_option Elab.async false
set_option linter.all false
set_option maxRecDepth 100000
set_option maxHeartbeats 8000000
namespace K07
open PySem PySem.Spec PyProof.Rows L2 TL Qh Qi Ql ClX Qmk Qmg Qde Qtb RT
abbrev sTurnInit : Stmt := inClass (top 73) 0
structure TurnC (K : PySem.W.Frag) (CT : Addr) : Prop where
  cl : Cls K CT
  n1 : NoAttr K CT "stem"
  n2 : NoAttr K CT "ahead"
  n3 : NoAttr K CT "behind"
  n4 : NoAttr K CT "is_plain"
def Any (s : WS) : Prop := s.ok ∧ ∀ x ∈ s.keys, x.length ≤ 1000 ∧ x ≠ Sp.hole
theorem Any.plain {s : WS} (h : Any s) (hm : s.isM = false) : Plain s := ⟨h.1, hm, fun x hx => (h.2 x hx).1⟩
/-- one step of endings at most -/
def Shape (ss : List WS) : Prop := (∀ s ∈ ss, Any s) ∧ ((∀ s ∈ ss, s.isM = false) ∨ ∃ pre m post, ss = pre ++ m :: post ∧ m.isM = true ∧ (∀ s ∈ pre, s.isM = false) ∧ ∀ s ∈ post, s.isM = false)
/-- the fields of no step and of no turning -/
def NotStep (fs : List (Str × V)) : Prop := fs.lookup (Str.ofString "words") = none ∧ fs.lookup (Str.ofString "pairs") = none ∧ fs.lookup (Str.ofString "endings") = none ∧ fs.lookup (Str.ofString "stem") = none
theorem kp_of {x CT dx : Addr} {fs : List (Str × V)} {G G' : Hp} (h : Kp x G G') (hx : G x = some (.ins CT dx fs)) {b : Addr} {o : HO} (e : G b = some o) (ne : o ≠ .ins CT dx fs) : G' b = some o := h b o (fun z => ne (by rw [z, hx] at e; exact (Option.some.inj e).symm)) e
theorem WS.at.kp {c : C4} {G G' : Hp} {x CT dx a : Addr} {fs : List (Str × V)} {s : WS} (h : s.at c G a) (k : Kp x G G') (hx : G x = some (.ins CT dx fs)) (nf : NotStep fs := by exact ⟨rfl, rfl, rfl, rfl⟩) : s.at c G' a := by
  obtain ⟨n1, n2, n3, n4⟩ := nf
  cases s with
  | stop ws =>
    obtain ⟨d, D1, h1, h2⟩ := h
    exact ⟨d, D1, kp_of k hx h1 (fun z => by injection z with _ _ z; rw [← z] at n1; cases n1), kp_of k hx h2 (fun z => nomatch z)⟩
  | drop ws =>
    obtain ⟨d, D1, h1, h2⟩ := h
    exact ⟨d, D1, kp_of k hx h1 (fun z => by injection z with _ _ z; rw [← z] at n1; cases n1), kp_of k hx h2 (fun z => nomatch z)⟩
  | swap ps =>
    obtain ⟨d, D1, h1, h2⟩ := h
    exact ⟨d, D1, kp_of k hx h1 (fun z => by injection z with _ _ z; rw [← z] at n2; cases n2), h2.same fun a l e => kp_of k hx e (fun z => nomatch z)⟩
  | stem es kk =>
    obtain ⟨d, D1, D2, D3, zs, h1, h2, h3, h4, h5⟩ := h
    exact ⟨d, D1, D2, D3, zs, kp_of k hx h1 (fun z => by injection z with _ _ z; rw [← z] at n3; cases n3), kp_of k hx h2 (fun z => nomatch z), kp_of k hx h3 (fun z => nomatch z), kp_of k hx h4 (fun z => nomatch z), h5⟩
theorem notStep0 : NotStep [] := ⟨rfl, rfl, rfl, rfl⟩
theorem AllAt.kp {c : C4} {G G' : Hp} {x CT dx : Addr} {fs : List (Str × V)} (k : Kp x G G') (hx : G x = some (.ins CT dx fs)) (nf : NotStep fs) : ∀ {as : List Addr} {ss : List WS}, AllAt c G as ss → AllAt c G' as ss
  | [], [], _ => True.intro
  | _ :: _, _ :: _, h => ⟨WS.at.kp h.1 k hx nf, AllAt.kp k hx nf h.2⟩
  | [], _ :: _, h => h.elim
  | _ :: _, [], h => h.elim
/-- the numbers of the steps of endings -/
def stemsAt : Nat → List WS → List Nat
  | _, [] => []
  | k, s :: ss => if s.isM = true then k :: stemsAt (k + 1) ss else stemsAt (k + 1) ss
theorem stemsAt_append : ∀ (a b : List WS) (k : Nat), stemsAt k (a ++ b) = stemsAt k a ++ stemsAt (k + a.length) b
  | [], b, k => rfl
  | s :: a, b, k => by
    have ih := stemsAt_append a b (k + 1)
    have e : k + 1 + a.length = k + (a.length + 1) := by omega
    rw [e] at ih
    show (if s.isM = true then k :: stemsAt (k + 1) (a ++ b) else stemsAt (k + 1) (a ++ b)) = (if s.isM = true then k :: stemsAt (k + 1) a else stemsAt (k + 1) a) ++ stemsAt (k + (a.length + 1)) b
    rw [ih]
    by_cases h : s.isM = true
    · rw [if_pos h, if_pos h]
      rfl
    · rw [if_neg h, if_neg h]
theorem stemsAt_none : ∀ (a : List WS) (k : Nat), (∀ s ∈ a, s.isM = false) → stemsAt k a = []
  | [], _, _ => rfl
  | s :: a, k, h => by
    show (if s.isM = true then k :: stemsAt (k + 1) a else stemsAt (k + 1) a) = []
    rw [if_neg (by rw [h s List.mem_cons_self]; exact Bool.false_ne_true)]
    exact stemsAt_none a (k + 1) fun s hs => h s (List.mem_cons_of_mem _ hs)
theorem stemsAt_len : ∀ (a : List WS) (k : Nat), (stemsAt k a).length ≤ a.length
  | [], _ => Nat.le_refl _
  | s :: a, k => by
    have := stemsAt_len a (k + 1)
    show (if s.isM = true then k :: stemsAt (k + 1) a else stemsAt (k + 1) a).length ≤ a.length + 1
    split
    · rw [List.length_cons]; omega
    · omega
theorem Shape.stems {ss : List WS} (h : Shape ss) : (stemsAt 0 ss = [] ∧ ∀ s ∈ ss, s.isM = false) ∨ ∃ pre m post, ss = pre ++ m :: post ∧ m.isM = true ∧ (∀ s ∈ pre, s.isM = false) ∧ (∀ s ∈ post, s.isM = false) ∧ stemsAt 0 ss = [pre.length] := by
  rcases h.2 with h | ⟨pre, m, post, rfl, hm, h1, h2⟩
  · exact .inl ⟨stemsAt_none ss 0 h, h⟩
  · refine .inr ⟨pre, m, post, rfl, hm, h1, h2, ?_⟩
    rw [stemsAt_append, stemsAt_none pre 0 h1, Nat.zero_add]
    show [] ++ (if m.isM = true then pre.length :: stemsAt (pre.length + 1) post else stemsAt (pre.length + 1) post) = _
    rw [if_pos hm, stemsAt_none post _ h2]
    rfl
/-- what the turning has -/
def TurnR (c : C4) (G : Hp) (v : V) (k1 k2 : List (Key × V)) (ss : List WS) : Prop := (v = .non ∧ (∀ s ∈ ss, s.isM = false) ∧ TabOf k1 ss) ∨
  ∃ pre m post a, ss = pre ++ m :: post ∧ m.isM = true ∧ Any m ∧ v = .ref a ∧ m.at c G a ∧ TabOf k1 pre ∧ TabOf k2 post
def TurnAt (c : C4) (CT : Addr) (G : Hp) (t : Addr) (ss : List WS) : Prop := ∃ dx v T1 T2 b k1 k2, G t = some (.ins CT dx [("stem", v), ("ahead", .ref T1), ("behind", .ref T2), ("is_plain", .bl b)]) ∧ G T1 = some (.dK k1) ∧ G T2 = some (.dK k2) ∧ TurnR c G v k1 k2 ss
theorem TurnAt.kp {c : C4} {CT t : Addr} {ss : List WS} {G G' : Hp} {x CC dx : Addr} {fs : List (Str × V)} (h : TurnAt c CT G t ss) (k : Kp x G G') (hx : G x = some (.ins CC dx fs)) (nf : NotStep fs) : TurnAt c CT G' t ss := by
  obtain ⟨d, v, T1, T2, b, k1, k2, h1, h2, h3, h4⟩ := h
  refine ⟨d, v, T1, T2, b, k1, k2, kp_of k hx h1 (fun z => ?_), kp_of k hx h2 (fun z => nomatch z), kp_of k hx h3 (fun z => nomatch z), ?_⟩
  · injection z with _ _ z
    have := nf.2.2.2
    rw [← z] at this
    cases this
  · rcases h4 with h | ⟨pre, m, post, a, e1, e2, e3, e4, e5, e6, e7⟩
    · exact .inl h
    · exact .inr ⟨pre, m, post, a, e1, e2, e3, e4, WS.at.kp e5 k hx nf, e6, e7⟩
theorem TurnAt.same {c : C4} {CT t : Addr} {ss : List WS} {G G' : Hp} (h : TurnAt c CT G t ss) (s : Same G G') : TurnAt c CT G' t ss := by
  obtain ⟨d, v, T1, T2, b, k1, k2, h1, h2, h3, h4⟩ := h
  refine ⟨d, v, T1, T2, b, k1, k2, s _ _ h1, s _ _ h2, s _ _ h3, ?_⟩
  rcases h4 with h | ⟨pre, m, post, a, e1, e2, e3, e4, e5, e6, e7⟩
  · exact .inl h
  · exact .inr ⟨pre, m, post, a, e1, e2, e3, e4, WS.at.same e5 s, e6, e7⟩
def spTurn (c : C4) (CT : Addr) : Sp := fun vs G Q _ => ∃ (x dx l : Addr) (as : List Addr) (ss : List WS), vs = [.ref x, .ref l] ∧ G x = some (.ins CT dx []) ∧ G l = some (.lst (as.map V.ref)) ∧ AllAt c G as ss ∧ Shape ss ∧ ss.length ≤ 10 ∧
  ∀ G', Kp x G G' → TurnAt c CT G' x ss → Q .non G'
abbrev turnN : List Str := ["self", "steps", "places", "index", "step", "at"]
section
variable {P : Program} {w : World} {K : PySem.W.Frag} {mg : Str → Option Value} {base : Heap}
theorem scTurnInit : FnScope turnN ["self", "steps"] (defScope sTurnInit) := ⟨rfl, rfl, rfl, by decide +kernel, rfl, by decide +kernel, by decide +kernel⟩
theorem turn_tail {c : C4} {CT : Addr} (T : TurnC K CT) {G2 : Hp} {Q : VK} {at_ : Nat} {v : V} {x dx l P0 : Addr} {as : List Addr} {ss : List WS} {o3 o4 : Option V}
    (hx : G2 x = some (.ins CT dx [("stem", v)])) (hl : G2 l = some (.lst (as.map V.ref))) (hs : AllAt c G2 as ss) (hkp : ∀ G', Kp x G2 G' → AllAt c G' as ss) (hA : ∀ s ∈ ss.take at_, Plain s) (hB : ∀ s ∈ ss.drop (at_ + 1), Plain s) (few : ss.length ≤ 10)
    (kQ : ∀ G' T1 T2 b k1 k2, Kp x G2 G' → G' x = some (.ins CT dx [("stem", v), ("ahead", .ref T1), ("behind", .ref T2), ("is_plain", .bl b)]) → G' T1 = some (.dK k1) → G' T2 = some (.dK k2) → TabOf k1 (ss.take at_) → TabOf k2 (ss.drop (at_ + 1)) → Q .non G') :
    tSeq (sFld K (tVar 0) (tCallS (spComposed K c) (WE fun _ _ _ _ => False) (tCons (tSl (rSlL K) (tVar 1) tNoPart (tPart (tVar 5))) tNil)) "ahead")
      (tSeq (sFld K (tVar 0) (tCallS (spComposed K c) (WE fun _ _ _ _ => False) (tCons (tSl (rSlL K) (tVar 1) (tPart (tOp (rI0 fun i j => V.int (i + j)) (tVar 5) (tC (V.int 1)))) tNoPart) tNil)) "behind")
        (sFld K (tVar 0) (tOp rEq (tCB (fun xs H Q => ∃ x n, xs = [x] ∧ LenV K x H n ∧ Q (V.int n) H) (tCons (tVar 1) tNil)) (tC (V.int 0))) "is_plain"))
      { nx := fun _ G' => Q .non G', rt := Q } [some (.ref x), some (.ref l), some (.ref P0), o3, o4, some (.int (at_ : Int))] G2 := by
  have al := hs.len
  have lx : l ≠ x := fun z => by rw [z, hx] at hl; cases hl
  refine ⟨_, rfl, _, rfl, _, rfl, l, as.map V.ref, rfl, SqL.of hl, fun p1 np1 => ⟨p1, as.take at_, ss.take at_, rfl, .inl (SqL.of (by rw [upd_same, cut_take, ← List.map_take])), (AllAt.take at_ hs).same (Same.new np1), hA, by rw [List.length_take]; omega, fun T1 k1 G3 nT1 s3 hT1 tab1 => ?_⟩⟩
  have s3' : Same G2 G3 := (Same.new np1).trans s3
  have hx3 := s3' _ _ hx
  refine ⟨_, rfl, x, CT, dx, _, rfl, hx3, T.cl, T.n2, by show 1 < 1000; decide, ?_⟩
  show tSeq _ _ _ _ (L2.upd G3 x (.ins CT dx [("stem", v), ("ahead", .ref T1)]))
  have T1x : T1 ≠ x := fun z => by rw [z, hx3] at hT1; cases hT1
  generalize hG4 : L2.upd G3 x (.ins CT dx [("stem", v), ("ahead", .ref T1)]) = G4
  have k4 : Kp x G2 G4 := fun b o ne e => by rw [← hG4, upd_ne ne]; exact s3' _ _ e
  have hx4 : G4 x = some (.ins CT dx [("stem", v), ("ahead", .ref T1)]) := by rw [← hG4, upd_same]
  have hl4 : G4 l = some (.lst (as.map V.ref)) := k4 _ _ lx hl
  have hT14 : G4 T1 = some (.dK k1) := by rw [← hG4, upd_ne T1x]; exact hT1
  have e1 : (at_ : Int) + 1 = ((at_ + 1 : Nat) : Int) := rfl
  refine ⟨_, rfl, _, rfl, _, _, rfl, rfl, _, rfl, l, as.map V.ref, rfl, SqL.of hl4, fun p2 np2 => ⟨p2, as.drop (at_ + 1), ss.drop (at_ + 1), rfl, .inl (SqL.of (by rw [upd_same, e1, cut_drop, ← List.map_drop])), (AllAt.drop (at_ + 1) (hkp G4 k4)).same (Same.new np2), hB, by rw [List.length_drop]; omega, fun T2 k2 G5 nT2 s5 hT2 tab2 => ?_⟩⟩
  have s5' : Same G4 G5 := (Same.new np2).trans s5
  have hx5 := s5' _ _ hx4
  refine ⟨_, rfl, x, CT, dx, _, rfl, hx5, T.cl, T.n3, by show 2 < 1000; decide, ?_⟩
  rw [show putF (Str.ofString "behind") (V.ref T2) [(Str.ofString "stem", v), (Str.ofString "ahead", V.ref T1)] = ([("stem", v), ("ahead", .ref T1), ("behind", .ref T2)] : List (Str × V)) from rfl]
  have T2x : T2 ≠ x := fun z => by rw [z, hx5] at hT2; cases hT2
  generalize hG6 : L2.upd G5 x (.ins CT dx [("stem", v), ("ahead", .ref T1), ("behind", .ref T2)]) = G6
  have k6 : Kp x G4 G6 := fun b o ne e => by rw [← hG6, upd_ne ne]; exact s5' _ _ e
  have hx6 : G6 x = some (.ins CT dx [("stem", v), ("ahead", .ref T1), ("behind", .ref T2)]) := by rw [← hG6, upd_same]
  have hl6 : G6 l = some (.lst (as.map V.ref)) := k6 _ _ lx hl4
  have hT26 : G6 T2 = some (.dK k2) := by rw [← hG6, upd_ne T2x]; exact hT2
  have hT16 := k6 _ _ T1x hT14
  refine ⟨_, rfl, .ref l, _, rfl, .inl ⟨_, SqL.of hl6, rfl⟩, rfl, _, rfl, x, CT, dx, _, rfl, hx6, T.cl, T.n4, by show 3 < 1000; decide, ?_⟩
  refine kQ _ T1 T2 _ k1 k2 (fun b o ne e => ?_) upd_same (by rw [upd_ne T1x]; exact hT16) (by rw [upd_ne T2x]; exact hT26) tab1 tab2
  rw [upd_ne ne]
  exact k6 _ _ ne (k4 _ _ ne e)
theorem ok_turnInit {c : C4} {CT f : Addr} {fd : FuncData} (F : Fun K "__init__" "Turning.__init__" sTurnInit f fd) (B : Blt mg) (TM : Sm.StemC K mg c.M) (T : TurnC K CT) (k : Kits K c) (F_composed : Ok P w K mg base "composed" (defArgs sComposed) ["steps"] 3 (spComposed K c)) :
    FnOk P w K mg base (L2.CX P w) 4 f fd ["self", "steps"] (spTurn c CT) := by
  refine F.okX scTurnInit (fun vs G Q E h => ?_) (fun cdv A out t G vs Q E hr h => ?_)
  · obtain ⟨x, dx, l, as, ss, rfl, _⟩ := h
    rfl
  · obtain ⟨x, dx, l, as, ss, rfl, hx, hl, hs, shape, few, kQ⟩ := h
    refine ⟨_, (pss_cons (ps_setLc (i := 2) (own := [("index", 3), ("step", 4)]) (tt := _) rfl scTurnInit.nd rfl rfl (sw_true rfl rfl rfl (by decide +kernel)) (pi_enum (by rfl) B.n_enumerate (pa_cons (pv 1) pa_nil)) (blkOk_by (N := turnN) (sc := defScope sTurnInit) (by decide +kernel)) (fun _ _ _ _ _ => pg_tupK (K := K) (n := 2) rfl rfl (pgs_cons (pg_name (i := 3) scTurnInit.nd rfl (by first | exact Or.inl rfl | exact Or.inr rfl)) (pgs_cons (pg_name (i := 4) scTurnInit.nd rfl (by first | exact Or.inl rfl | exact Or.inr rfl)) pgs_nil))) (fun _ _ _ _ _ => pts_one (pt_val (pe_callB (r := rIsi K) call_isi (by rfl) B.n_isinstance bt_isinstance (pa_cons (pv 4) (pa_cons (pe_glob (v := .ref c.M) rfl TM.g rfl) pa_nil))))) (fun _ _ _ _ _ => pv 3))
    (pss_cons (ps_set (i := 5) scTurnInit.nd rfl (by first | exact Or.inl rfl | exact Or.inr rfl) (pe_ifExp (pt_cmpR op_gt (pe_callB call_len (by rfl) B.n_len bt_len (pa_cons (pv 2) pa_nil)) pe_int (nomark _)) (pe_ix ix_list (pv 2) pe_int (fun _ _ => rfl)) (pe_callB call_len (by rfl) B.n_len bt_len (pa_cons (pv 1) pa_nil))))
    (pss_cons (ps_fld (pv 0) (pe_ifExp (pt_cmpR op_gt (pe_callB call_len (by rfl) B.n_len bt_len (pa_cons (pv 2) pa_nil)) pe_int (nomark _)) (pe_ix ix_list (pv 1) (pv 5) (fun _ _ => rfl)) pe_non) rfl)
    (pss_cons (ps_fld (pv 0) (pe_own F_composed (hr.mono (by decide)) takes0 (pa_cons (pe_slice sl_list (pv 1) po_none (po_some (pv 5))) pa_nil)) rfl)
    (pss_cons (ps_fld (pv 0) (pe_own F_composed (hr.mono (by decide)) takes0 (pa_cons (pe_slice sl_list (pv 1) (po_some (pe_op op_add (pv 5) pe_int)) po_none) pa_nil)) rfl)
    (pss_one (ps_fld (pv 0) (pe_cmpR op_eq (pe_callB call_len (by rfl) B.n_len bt_len (pa_cons (pv 1) pa_nil)) pe_int (nomark _)) rfl))))))), ?_⟩
    have al := hs.len
    refine ⟨_, rfl, l, as.map V.ref, rfl, SqL.of hl, fun P0 hP0 => lc_it walk_enum (fun i G' => Same G G' ∧ G' P0 = some (.lst ((stemsAt 0 (ss.take i)).map fun n : Nat => V.int (n : Int)))) ⟨Same.new hP0, by rw [upd_same]; rfl⟩ (fun i G' _ p => SqL.of (p.1 _ _ hl)) ?_ ?_⟩
    · rintro i y G1 G2 hi ⟨sm, hp⟩ ⟨Tp, v1, v2, rfl, nTp, rfl, e1, e2⟩
      rw [List.length_map, al] at hi
      obtain rfl : v1 = V.int (i : Int) := (Option.some.inj e1).symm
      obtain ⟨ai, hai, rfl⟩ := map_at e2
      obtain ⟨s, hsi, hat⟩ := hs.get hai
      have s2 : Same G (L2.upd G1 Tp (.tup [V.int (i : Int), V.ref ai])) := sm.trans (Same.new nTp)
      have hp2 : L2.upd G1 Tp (.tup [V.int (i : Int), V.ref ai]) P0 = some (.lst ((stemsAt 0 (ss.take i)).map fun n : Nat => V.int (n : Int))) := by
        rw [upd_ne (fun z => by rw [z, nTp] at hp; cases hp)]
        exact hp
      have ht : stemsAt 0 (ss.take (i + 1)) = stemsAt 0 (ss.take i) ++ (if s.isM = true then [i] else []) := by
        rw [take_get hsi, stemsAt_append, Nat.zero_add, List.length_take, Nat.min_eq_left (Nat.le_of_lt hi)]
        rfl
      refine ⟨Tp, _, rfl, SqT.of upd_same, rfl, _, _, rfl, _, _, rfl, rfl, rfl, _, rfl, _, _, _, _, _, rfl, .own c.M, k.ty (WS.at.same hat s2), k.isM s, _, rfl, ?_⟩
      refine ite2 (fun hm => ?_) (fun hm => ?_)
      · refine ⟨_, rfl, _, hp2, ?_, Qh.Same.fresh s2 hP0, ?_⟩
        · have := stemsAt_len (ss.take i) 0
          rw [List.length_take] at this
          rw [List.length_map]
          exact big_line' (by omega)
        · rw [upd_same, ht, if_pos hm, List.map_append]
          rfl
      · refine ⟨s2, ?_⟩
        rw [ht, if_neg hm, List.append_nil]
        exact hp2
    · rintro G1 ⟨sm, hp⟩
      rw [List.length_map, al, List.take_length] at hp
      have hx1 := sm _ _ hx
      have hl1 := sm _ _ hl
      have lx : l ≠ x := fun z => by rw [z, hx] at hl; cases hl
      have kx : ∀ o, Kp x G (L2.upd G1 x o) := fun o b ob ne e => by rw [upd_ne ne]; exact sm _ _ e
      rcases shape.stems with ⟨e0, none⟩ | ⟨pre, m, post, rfl, hm, h1, h2, e0⟩
      · rw [e0] at hp
        refine ⟨_, rfl, .ref P0, _, rfl, .inl ⟨_, SqL.of hp, rfl⟩, _, _, rfl, rfl, _, rfl, ?_⟩
        refine iteF ⟨_, rfl, .ref l, _, rfl, .inl ⟨_, SqL.of hl1, rfl⟩, ?_⟩
        refine ⟨_, rfl, .ref P0, _, rfl, .inl ⟨_, SqL.of hp, rfl⟩, _, _, rfl, rfl, _, rfl, ?_⟩
        refine iteF ⟨_, rfl, x, CT, dx, [], rfl, hx1, T.cl, T.n1, by show 0 < 1000; decide, ?_⟩
        exact turn_tail T upd_same (by rw [upd_ne lx]; exact hl1) (AllAt.kp (kx _) hx notStep0 hs) (fun G' k' => AllAt.kp ((kx _).trans k') hx notStep0 hs) (fun s hh => (shape.1 s (List.mem_of_mem_take hh)).plain (none s (List.mem_of_mem_take hh))) (fun s hh => (shape.1 s (List.mem_of_mem_drop hh)).plain (none s (List.mem_of_mem_drop hh))) few
          fun G' T1 T2 b k1 k2 k' e1 e2 e3 t1 t2 => kQ G' ((kx _).trans k') ⟨dx, .non, T1, T2, b, k1, k2, e1, e2, e3, .inl ⟨rfl, none, by rw [List.length_map, al, List.take_length] at t1; exact t1⟩⟩
      · rw [e0] at hp
        refine ⟨_, rfl, .ref P0, _, rfl, .inl ⟨_, SqL.of hp, rfl⟩, _, _, rfl, rfl, _, rfl, ?_⟩
        refine iteT ⟨_, rfl, P0, _, _, _, rfl, rfl, SqL.of hp, rfl, ?_⟩
        refine ⟨_, rfl, .ref P0, _, rfl, .inl ⟨_, SqL.of hp, rfl⟩, _, _, rfl, rfl, _, rfl, ?_⟩
        have lt : pre.length < as.length := by rw [al, List.length_append, List.length_cons]; omega
        obtain ⟨s, hsi, hat⟩ := hs.get (List.getElem?_eq_getElem lt)
        obtain rfl : m = s := by
          rw [List.getElem?_append_right (Nat.le_refl _), Nat.sub_self] at hsi
          exact Option.some.inj hsi
        have hix : (as.map V.ref)[pre.length]? = some (.ref as[pre.length]) := by rw [List.getElem?_map, List.getElem?_eq_getElem lt]; rfl
        refine iteT ⟨_, rfl, _, rfl, l, _, _, _, rfl, rfl, SqL.of hl1, atI_nat hix, _, rfl, x, CT, dx, [], rfl, hx1, T.cl, T.n1, by show 0 < 1000; decide, ?_⟩
        have take_eq : (pre ++ m :: post).take pre.length = pre := List.take_left
        have drop_eq : (pre ++ m :: post).drop (pre.length + 1) = post := by rw [List.drop_append]; simp
        exact turn_tail T upd_same (by rw [upd_ne lx]; exact hl1) (AllAt.kp (kx _) hx notStep0 hs) (fun G' k' => AllAt.kp ((kx _).trans k') hx notStep0 hs) (fun s hh => by rw [take_eq] at hh; exact (shape.1 s (List.mem_append_left _ hh)).plain (h1 s hh)) (fun s hh => by rw [drop_eq] at hh; exact (shape.1 s (List.mem_append_right _ (List.mem_cons_of_mem _ hh))).plain (h2 s hh)) few
          fun G' T1 T2 b k1 k2 k' e1 e2 e3 t1 t2 => kQ G' ((kx _).trans k') ⟨dx, _, T1, T2, b, k1, k2, e1, e2, e3, .inr ⟨pre, m, post, _, rfl, hm, shape.1 m (List.mem_append_right _ List.mem_cons_self), rfl, WS.at.kp hat ((kx _).trans k') hx, by rw [take_eq] at t1; exact t1, by rw [drop_eq] at t2; exact t2⟩⟩
end
end K07
set_option Elab.async false
set_option linter.all false
set_option maxRecDepth 100000
set_option maxHeartbeats 8000000
namespace K07
open PySem PySem.Spec PyProof.Rows L2 TL Qh Qi Ql ClX Qmk Qmg Qde Qtb RT
abbrev sTurnRes : Stmt := inClass (top 73) 1
theorem hole_len : Sp.hole.length = 1 := by decide +kernel
theorem dueS_hole (es kk : List Str) : Sm.resS es kk Sp.hole = Sp.hole := by
  show Sm.dueS es kk Sp.hole = Sp.hole
  unfold Sm.dueS
  rw [hole_len]
  split <;> rfl
theorem WS.res_hole {s : WS} (h : Any s) : s.res (.str Sp.hole) = .str Sp.hole := by
  cases e : s.isM with
  | false => exact WS.res_not e fun hx => (h.2 _ hx).2 rfl
  | true =>
    cases s with
    | stem es kk =>
      show V.str (Sm.resS es kk Sp.hole) = _
      rw [dueS_hole]
    | stop ws => cases e
    | drop ws => cases e
    | swap ps => cases e
theorem resAll_hole : ∀ {ss : List WS}, (∀ s ∈ ss, Any s) → resAll ss (.str Sp.hole) = .str Sp.hole
  | [], _ => rfl
  | s :: ss, h => by
    show resAll ss (s.res (.str Sp.hole)) = _
    rw [WS.res_hole (h s List.mem_cons_self)]
    exact resAll_hole fun t ht => h t (List.mem_cons_of_mem _ ht)
theorem resAll_app (a b : List WS) (v : V) : resAll (a ++ b) v = resAll b (resAll a v) := List.foldl_append
theorem upto_len (x : Str) (c : Nat) (h : c ≤ x.length) : (Sm.uptoS x c).length ≤ x.length := by
  rw [← Sm.cps_len, Sm.upto_cps h, List.length_take, Sm.cps_len]
  omega
theorem dueS_len (es kk : List Str) (x : Str) : (Sm.resS es kk x).length ≤ x.length := by
  show (Sm.dueS es kk x).length ≤ x.length
  unfold Sm.dueS
  split
  · exact Nat.le_refl _
  · split
    · next j hj =>
      have := List.mem_of_find?_eq_some hj
      rw [List.mem_range] at this
      exact upto_len x _ (by omega)
    · exact Nat.le_refl _
theorem WS.res_wv {s : WS} (h : Any s) {v : V} (hv : wv v) : wv (s.res v) := by
  rcases hv with rfl | ⟨x, rfl, hx⟩
  · rw [WS.res_non]
    exact .inl rfl
  · cases s with
    | stop ws =>
      show wv (Sp.resV ws _ (.str x))
      unfold Sp.resV
      split
      · exact .inr ⟨_, rfl, by rw [hole_len]; decide⟩
      · exact .inr ⟨_, rfl, hx⟩
    | drop ws =>
      show wv (Sp.resV ws _ (.str x))
      unfold Sp.resV
      split
      · exact .inl rfl
      · exact .inr ⟨_, rfl, hx⟩
    | swap ps =>
      show wv (Sw.resW ps (.str x))
      unfold Sw.resW
      split
      · next p hp => exact .inr ⟨_, rfl, h.1.2 p (List.mem_of_find?_eq_some hp)⟩
      · exact .inr ⟨_, rfl, hx⟩
    | stem es kk => exact .inr ⟨_, rfl, Nat.le_trans (dueS_len es kk x) hx⟩
theorem resAll_wv : ∀ {ss : List WS}, (∀ s ∈ ss, Any s) → ∀ {v : V}, wv v → wv (resAll ss v)
  | [], _, _, hv => hv
  | s :: ss, h, v, hv => resAll_wv (fun t ht => h t (List.mem_cons_of_mem _ ht)) (WS.res_wv (h s List.mem_cons_self) hv)
def spTurnRes (c : C4) (CT : Addr) : Sp := fun vs G Q _ => ∃ (t : Addr) (ss : List WS) (x : Str), vs = [.ref t, .str x] ∧ TurnAt c CT G t ss ∧ (∀ s ∈ ss, Any s) ∧ x.length ≤ 1000 ∧ ∀ G', Same G G' → Q (resAll ss (.str x)) G'
abbrev tresN : List Str := ["self", "word", "value"]
section
variable {P : Program} {w : World} {K : PySem.W.Frag} {mg : Str → Option Value} {base : Heap}
theorem scTurnRes : FnScope tresN ["self", "word"] (defScope sTurnRes) := ⟨rfl, rfl, rfl, by decide +kernel, rfl, by decide +kernel, by decide +kernel⟩
theorem ok_turnRes {c : C4} {CT f : Addr} {fd : FuncData} (F : Fun K "result" "Turning.result" sTurnRes f fd) (B : Blt mg) (hH : ∃ t, mg "HOLE" = some (.str Sp.hole t)) (T : TurnC K CT) (R : Res P w K mg base c) :
    FnOk P w K mg base (L2.CX P w) 2 f fd ["self", "word"] (spTurnRes c CT) := by
  obtain ⟨tH, hH⟩ := hH
  refine F.okX scTurnRes (fun vs G Q E h => ?_) (fun cdv A out t G vs Q E hr h => ?_)
  · obtain ⟨t, ss, x, rfl, _⟩ := h
    rfl
  · obtain ⟨t, ss, x, rfl, ⟨dx, v, T1, T2, b, k1, k2, ht, h1, h2, hR⟩, any, hx, kQ⟩ := h
    have hu1 := Nat.lt_of_le_of_lt (Nat.add_le_add_left (show 1 ≤ 64 by decide) _) hr.units
    refine ⟨_, (pss_cons (ps_set (i := 2) scTurnRes.nd rfl (by first | exact Or.inl rfl | exact Or.inr rfl) (pe_dget2N hu1 (pe_fld (pv 0) rfl) (pv 1) (pv 1) ⟨rfl, rfl, rfl, rfl⟩))
    (pss_cons (ps_if (PW.pt (pw_or (pt_cmpR op_isN (pe_fld (pv 0) rfl) pe_non (nomark _)) (pw_or (pt_cmpR op_isN (pv 2) pe_non (nomark _)) (pw_or1 (pt_cmpR op_eq (pv 2) (pe_glob (v := .str Sp.hole) rfl hH ⟨_, rfl⟩) (nomark _)))))) (pss_one (ps_ret (pv 2))) pss_nil)
    (pss_cons (ps_set (i := 2) scTurnRes.nd rfl (by first | exact Or.inl rfl | exact Or.inr rfl) (pe_methD (P := P) (w := w) (K := K) (mg := mg) (base := base) (k := 1) ⟨rfl, rfl, rfl, rfl, rfl⟩ (pe_fld (pv 0) rfl) (hr.mono (by decide)) takes0 (pa_cons (pv 2) pa_nil)))
    (pss_one (ps_ret (pe_dget2N hu1 (pe_fld (pv 0) rfl) (pv 2) (pv 2) ⟨rfl, rfl, rfl, rfl⟩)))))), ?_⟩
    have k0 := kQ G (Same.refl G)
    refine ⟨_, rfl, t, CT, dx, _, _, rfl, ht, T.cl, T.n2, rfl, T1, rfl, .inl ⟨k1, .inl h1⟩, _, rfl, _, rfl, .inr ⟨valV k1 (.inr x), DGet.k (k := .inr x) h1, ?_⟩⟩
    refine ⟨_, rfl, t, CT, dx, _, _, rfl, ht, T.cl, T.n1, rfl, ?_⟩
    rcases hR with ⟨rfl, none, tab⟩ | ⟨pre, m, post, a, rfl, hm, am, rfl, hat, tab, tab2⟩
    · refine ⟨rfl, _, rfl, iteT ⟨_, rfl, ?_⟩⟩
      show Q ((valV k1 (.inr x)).getD (.str x)) G
      rw [tab x]
      exact k0
    · have e1 := tab x
      rw [e1]
      have wv1 : wv (resAll pre (.str x)) := resAll_wv (fun s hs => any s (List.mem_append_left _ hs)) (.inr ⟨x, rfl, hx⟩)
      have anyp : ∀ s ∈ m :: post, Any s := fun s hs => any s (List.mem_append_right _ hs)
      rw [resAll_app] at k0 kQ
      refine ⟨rfl, _, rfl, iteF ?_⟩
      rcases wv1 with e | ⟨y, e, hy⟩
      · rw [e] at k0 ⊢
        rw [resAll_non] at k0
        exact ⟨_, rfl, rfl, _, rfl, iteT ⟨_, rfl, k0⟩⟩
      · rw [e] at k0 kQ ⊢
        refine ⟨_, rfl, rfl, _, rfl, iteF ?_⟩
        refine ⟨_, rfl, rfl, _, rfl, ?_⟩
        refine ite2 (fun hq => ?_) (fun hq => ?_)
        · have hq : y = Sp.hole := by
            have := of_decide_eq_true hq
            exact V.str.inj this
          rw [hq] at k0 ⊢
          rw [resAll_hole anyp] at k0
          exact ⟨_, rfl, k0⟩
        · obtain ⟨sp, hM, hsp⟩ := R.get m
          obtain ⟨d, fs, i1, i2⟩ := WS.ins hat
          refine ⟨_, rfl, t, CT, dx, _, _, rfl, ht, T.cl, T.n1, rfl, m.cls c, sp, a, d, fs, hM, rfl, i1, i2, _, rfl, hsp a G (.str y) _ _ hat am.1 (.inr ⟨y, rfl, hy⟩) fun G2 s2 => ?_⟩
          have k2' : Q (resAll post (m.res (.str y))) G2 := kQ G2 s2
          refine ⟨_, rfl, t, CT, dx, _, _, rfl, s2 _ _ ht, T.cl, T.n3, rfl, T2, rfl, .inl ⟨k2, .inl (s2 _ _ h2)⟩, _, rfl, _, rfl, ?_⟩
          rcases WS.res_or (s := m) y with e2 | ⟨z, e2⟩
          · rw [e2, resAll_non] at k2'
            refine .inl ⟨e2, ⟨k2, .inl (s2 _ _ h2)⟩, ?_⟩
            show Q (m.res (.str y)) G2
            rw [e2]
            exact k2'
          · rw [e2] at k2'
            refine .inr ⟨valV k2 (.inr z), ?_, ?_⟩
            · show DGet _ T2 (m.res (.str y)) _
              rw [e2]
              exact DGet.k (k := .inr z) (s2 _ _ h2)
            · show Q ((valV k2 (.inr z)).getD (m.res (.str y))) G2
              rw [e2, tab2 z]
              exact k2'
end
end K07
set_option Elab.async false
set_option linter.all false
set_option maxRecDepth 100000
set_option maxHeartbeats 4000000
/-! tuple(d) of a dict with keys that are ints or texts. -/
namespace Qtd
open PySem PySem.Spec PySem.W PyProof.Rows L2 RT TL Qh
section
variable {prog : Program} {w : World} {A : Around} {E : Value → Shared → Prop} {s : Shared} {T : String} {r d : Addr} {n : Nat} {P : Nat → Value → Prop} {OK : Heap → Prop}
theorem code_tuple_new_kdl {Q₁ : Value → Shared → Prop} (K : KdlSrc prog w T r d n P OK) (hT : s.TypeIs (.ref r) T) (hne : T ≠ "tuple") (hh : A.handled = none) (hok : OK s.heap) (hn : n ≤ sizeLine)
    (h : ∀ (h' : Heap) (tk : Nat) (acc : Array Value), (∀ b o, s.heap.get? b = some o → h'.get? b = some o) → ItemsOf P acc n →
      Q₁ (.ref h'.objs.size) { s with heap := h'.push { cls := .type "tuple", data := .seq acc }, toks := tk }) :
    codeAny (model prog w) A (.call (.builtin "tuple.__new__") ⟨[.type "tuple", .ref r], []⟩) (wants Q₁ E) s := by
  refine codeAny_of_tree ?_
  show wpAny _ A.in1 (do checkBuiltinCall "tuple.__new__" ⟨[.type "tuple", .ref r], []⟩; again (.builtin "tuple.__new__" ⟨[.type "tuple", .ref r], []⟩)) _ _ s
  refine wpAny_bind (wpAny_of_eq (F.newCall_tuple_1 _) (wpAny_pure ⟨plainId_quiet F.plain_tuple_new _, codeAny_builtin F.entry_tuple_new ?_⟩))
  rw [Around.under_plainId F.plain_tuple_new _]
  have hsub := sub_tuple_self
  have hinit := init_tuple_lookup
  have hmh := madeHere_tuple
  have hh1 : A.in1.handled = none := hh
  have hne2 : (Value.type T == Value.type "tuple") = false := by
    simpa using hne
  wp_walk using wpAny_typeOf hT, kdu_collect (A := A.in1) K hh1 hok hn
  intro h' tk acc hk hacc
  show wpAny _ _ (Builtin.Tuple.tupleExact acc.toList.toArray >>= fun v => ret v) _ _ _
  unfold Builtin.Tuple.tupleExact
  refine wpAny_bind (wpAny_newObj_type ?_ (by show acc.toList.toArray.size ≤ sizeLine; simp only [Array.toArray_toList]; rw [hacc.1]; exact hn))
  refine wpAny_pure ?_
  have e : acc.toList.toArray = acc := by simp
  rw [e]
  exact h h' tk acc hk hacc
theorem call_tuple_kdl {Q : Value → Shared → Prop} (K : KdlSrc prog w T r d n P OK) (hT : s.TypeIs (.ref r) T) (hne : T ≠ "tuple") (hh : A.handled = none) (hok : OK s.heap) (hn : n ≤ sizeLine)
    (hQ : ∀ (h' : Heap) (tk : Nat) (acc : Array Value), (∀ b o, s.heap.get? b = some o → h'.get? b = some o) → ItemsOf P acc n →
      Q (.ref h'.objs.size) { s with heap := h'.push { cls := .type "tuple", data := .seq acc }, toks := tk }) :
    wpAny (model prog w) A (call (.type "tuple") [.ref r]) Q E s := by
  refine callType_codes (Q₁ := fun obj s₁ => s₁.TypeIs obj "tuple" ∧ Q obj s₁) F.called_tuple (F.typeCall_tuple_1 _) F.entry_object_init
    (code_tuple_new_kdl (A := A.in1) K hT hne hh hok hn fun h' tk acc hk hacc => ⟨⟨_, Heap.get?_push_size _ rfl, rfl⟩, hQ h' tk acc hk hacc⟩) fun obj s₁ h₁ => ?_
  exact ⟨h₁.1, F.args_object_init_2 obj _, object_init_meets F.called_tuple.init.lookup F.called_tuple.made (by decide) prog w A.in1 _ s₁ ⟨h₁.1, rfl, h₁.2⟩⟩
end
theorem paired_of {α β : Type} {R : α → β → Prop} : ∀ {l : List α} {m : List β}, l.length = m.length → (∀ (i : Nat) a b, l[i]? = some a → m[i]? = some b → R a b) → Paired R l m
  | [], [], _, _ => .nil
  | a :: l, b :: m, hl, h => .cons (h 0 a b rfl rfl) (paired_of (by simpa using hl) fun i a b h1 h2 => h (i + 1) a b h1 h2)
  | [], _ :: _, hl, _ => nomatch hl
  | _ :: _, [], hl, _ => nomatch hl
theorem kV_rel {k : Key} {u : Value} (h : keyIs k u = true) : RelV (kV k) u := by
  rcases keyIs_shape h with ⟨i, t, rfl, rfl⟩ | ⟨x, t, rfl, rfl⟩
  · exact ⟨t, rfl⟩
  · exact ⟨t, rfl⟩
section
variable {X : Cx}
/-- the tuples that are the keys -/
def KeysAt (H : Hp) (kvs : List (List Key × V)) (qs : List Addr) : Prop := Paired (fun p q => H q = some (.tup (p.1.map kV))) kvs qs
/-- tuple(d) -/
def nTupD : List V → Hp → VK → Prop := fun xs H Q => ∃ d, xs = [V.ref d] ∧
  ((∃ kvs, H d = some (.dK kvs) ∧ ∀ l H', H l = none → Same H H' → H' l = some (.tup (kvs.map fun p => kV p.1)) → Q (.ref l) H') ∨
   (∃ kvs, H d = some (.dT kvs) ∧ ∀ l qs H', H l = none → Same H H' → H' l = some (.tup (qs.map V.ref)) → KeysAt H kvs qs → Q (.ref l) H'))
theorem cn_tupleD (hc : X.calm = true) : CallR X (.type "tuple") nTupD := by
  intro pins s σ H xs us Q I r h
  obtain ⟨d, rfl, h⟩ := h
  obtain ⟨u, rfl, ru⟩ := vals1 r
  cases ru
  rcases h with ⟨kvs, hd, q⟩ | ⟨kvs, hd, q⟩
  · obtain ⟨z, y, vs, rel, dd⟩ := dk_of I.hok hd
    have vl : kvs.length = vs.length := rel.length
    obtain ⟨o, es, ep, h1, h2, h3, h4, h5, h6⟩ := dd
    refine call_tuple_kdl (s := s) (kdl_dict (knd := mixKind X.prog X.w) (kvs := vs) (ep := ep) y) ⟨o, h1, h2.1⟩ (by decide) (I.ok.hd hc) ⟨o, es, h1, h2, h3, h4, h5, h6⟩ (by rw [← vl]; exact z) fun h' tk acc hk hi => ?_
    have I1 : Inv X pins σ H { s with heap := h', toks := tk } := I.kept (t' := tk) hk
    have hv : Vals (kvs.map fun p => kV p.1) acc.toList := paired_of (by have e := hi.1; rw [List.length_map, vl, ← e]; exact (Array.length_toList (xs := acc)).symm) fun i a b e1 e2 => by
      obtain ⟨p, hp, rfl⟩ := map_at e1
      obtain ⟨k, x, e3, e4⟩ := hi.2 i b (by rw [← Array.getElem?_toList]; exact e2)
      have hpr : ∃ v, vs[i]? = some (p.1, v) := by
        obtain ⟨v, hv, hr⟩ := Qmd.paired_at rel hp
        exact ⟨v.2, by rw [hv, hr.1]⟩
      obtain ⟨v, hv⟩ := hpr
      rw [hv] at e3
      cases e3
      exact kV_rel e4
    refine ⟨.ref h'.objs.size, _, I1.laid (t' := tk) (fun c o e => Heap.get?_push_of_some _ e) (Nat.le_refl _) (show ObjOk X.prog X.w _ _ _ (.tup (kvs.map fun p => kV p.1)) from ⟨by rw [List.length_map]; exact z, acc.toList, hv, ?_⟩), rfl, q _ _ (I1.hok.fresh (Nat.le_refl _)) (Same.new (I1.hok.fresh (Nat.le_refl _))) upd_same⟩
    rw [Array.toArray_toList]
    exact IsTup.new _ _
  · obtain ⟨z, y, vs, rel, o, es, ep, h1, h2, h3, h4, h5⟩ := (show ObjOk X.prog X.w H s.heap d (.dT kvs) from I.hok d _ hd)
    have vl : kvs.length = vs.length := Paired.length rel
    have el : es.size = vs.length := by
      rw [← Array.length_toList, h4, List.length_map]
    refine call_tuple_kdl (s := s) (KdlSrc.rawDict (es := es) (ep := ep) y) ⟨o, h1, h2.1⟩ (by decide) (I.ok.hd hc) ⟨o, h1, h2, h3⟩ (by rw [el, ← vl]; exact z) fun h' tk acc hk hi => ?_
    have I1 : Inv X pins σ H { s with heap := h', toks := tk } := I.kept (t' := tk) hk
    have key : ∀ i b, acc.toList[i]? = some b → ∃ x : List Key × Addr × Value, vs[i]? = some x ∧ b = Value.ref x.2.1 := fun i b e => by
      obtain ⟨hlt, e4⟩ := hi.2 i b (by rw [← Array.getElem?_toList]; exact e)
      have e5 : es.toList[i]? = some es[i] := by rw [Array.getElem?_toList, Array.getElem?_eq_getElem hlt]
      rw [h4] at e5
      obtain ⟨x, hx, e6⟩ := map_at e5
      exact ⟨x, hx, by rw [e4, e6]; rfl⟩
    have hv : Vals ((vs.map fun x => x.2.1).map V.ref) acc.toList := paired_of (by have e := hi.1; rw [List.length_map, List.length_map, ← el, ← e]; exact (Array.length_toList (xs := acc)).symm) fun i a b e1 e2 => by
      obtain ⟨x, hx, rfl⟩ := key i b e2
      rw [List.map_map, List.getElem?_map, hx] at e1
      cases e1
      rfl
    refine ⟨.ref h'.objs.size, _, I1.laid (t' := tk) (fun c o e => Heap.get?_push_of_some _ e) (Nat.le_refl _) (show ObjOk X.prog X.w _ _ _ (.tup ((vs.map fun x => x.2.1).map V.ref)) from ⟨by rw [List.length_map, List.length_map, ← vl]; exact z, acc.toList, hv, ?_⟩), rfl, q _ _ _ (I1.hok.fresh (Nat.le_refl _)) (Same.new (I1.hok.fresh (Nat.le_refl _))) upd_same ?_⟩
    · rw [Array.toArray_toList]
      exact IsTup.new _ _
    · refine paired_of (by rw [List.length_map, vl]) fun i p q e1 e2 => ?_
      obtain ⟨x, hx, hr⟩ := Qmd.paired_at rel e1
      rw [List.getElem?_map, hx] at e2
      cases e2
      exact hr.2.1
end
end Qtd
set_option Elab.async false
set_option linter.all false
set_option maxRecDepth 100000
set_option maxHeartbeats 8000000
namespace K07
open PySem PySem.Spec PyProof.Rows L2 TL Qh Qi Ql ClX Qmk Qmg Qde Qtb Qtd RT
abbrev sCheck : Stmt := top 75
abbrev sChkDrop : Stmt := top 76
abbrev sChkSides : Stmt := top 77
abbrev sEach : Stmt := top 40
abbrev sMeet : Stmt := top 47
abbrev sBegins : Stmt := top 48
/-- Chain, the class at CC -/
structure ChainC (K : PySem.W.Frag) (mg : Str → Option Value) (CC : Addr) : Prop where
  g : mg "Chain" = some (.ref CC)
  most : ∃ mc u, CRead K CC mc ∧ CVal K CC mc "MOST" (.int 6) u
/-- Same, the class at CA, beside the steps -/
structure KitA (K : PySem.W.Frag) (mg : Str → Option Value) (c : C4) (CA : Addr) : Prop where
  g : mg "Same" = some (.ref CA)
  sa : PySem.W.kitOne K (.ref c.S) (.ref CA) = some false
  da : PySem.W.kitOne K (.ref c.D) (.ref CA) = some false
  wa : PySem.W.kitOne K (.ref c.W) (.ref CA) = some false
  ma : PySem.W.kitOne K (.ref c.M) (.ref CA) = some false
  ww : PySem.W.kitOne K (.ref c.W) (.ref c.W) = some true
  mw : PySem.W.kitOne K (.ref c.M) (.ref c.W) = some false
theorem KitA.isA {K : PySem.W.Frag} {mg : Str → Option Value} {c : C4} {CA : Addr} (k : KitA K mg c CA) (s : WS) : PySem.W.kitOne K (.ref (s.cls c)) (.ref CA) = some false := by
  cases s with
  | stop ws => exact k.sa
  | drop ws => exact k.da
  | swap ps => exact k.wa
  | stem es kk => exact k.ma
theorem KitA.any {K : PySem.W.Frag} {mg : Str → Option Value} {c : C4} {CA : Addr} (kk : Kits K c) (k : KitA K mg c CA) (s : WS) : PySem.W.kitAny K (.ref (s.cls c)) [.ref c.S, .ref c.W, .ref c.M, .ref CA] = some true := by
  cases s with
  | stop ws => exact kitAny_cons kk.ss (fun z => nomatch z) fun _ => rfl
  | drop ws => exact kitAny_cons kk.ds (fun z => nomatch z) fun _ => rfl
  | swap ps => exact kitAny_cons kk.ws (fun _ => kitAny_cons k.ww (fun z => nomatch z) fun _ => rfl) fun z => nomatch z
  | stem es ks => exact kitAny_cons kk.ms (fun _ => kitAny_cons k.mw (fun _ => kitAny_cons kk.mm (fun z => nomatch z) fun _ => rfl) fun z => nomatch z) fun z => nomatch z
theorem cutV_mem {xs : List V} {lo hi : Option Int} {x : V} (h : x ∈ cutV xs lo hi) : x ∈ xs := List.mem_of_mem_drop (List.mem_of_mem_take h)
theorem AllAt.mem {c : C4} {G : Hp} {as : List Addr} {ss : List WS} (h : AllAt c G as ss) {a : Addr} (ha : a ∈ as) : ∃ s : WS, s.at c G a := by
  obtain ⟨i, hi⟩ := List.getElem?_of_mem ha
  obtain ⟨s, _, h2⟩ := h.get hi
  exact ⟨s, h2⟩
theorem Shape.few {ss : List WS} (h : Shape ss) : (stemsAt 0 ss).length ≤ 1 := by
  rcases h.stems with ⟨e, _⟩ | ⟨_, _, _, _, _, _, _, e⟩
  · rw [e]
    exact Nat.zero_le _
  · rw [e]
    exact Nat.le_refl _
def spCheck (c : C4) : Sp := fun vs G Q _ => ∃ (a : Addr) (as : List Addr) (ss : List WS), vs = [.ref a] ∧ G a = some (.tup (as.map V.ref)) ∧ AllAt c G as ss ∧ Shape ss ∧ ss.length ≤ 6 ∧ ∀ G', Same G G' → Q .non G'
abbrev chkN : List Str := ["steps", "index", "step", "stems"]
section
variable {P : Program} {w : World} {K : PySem.W.Frag} {mg : Str → Option Value} {base : Heap}
theorem scCheck : FnScope chkN ["steps"] (defScope sCheck) := ⟨rfl, rfl, rfl, by decide +kernel, rfl, by decide +kernel, by decide +kernel⟩
theorem ok_check {c : C4} {CC CA : Addr} (D : DefIn K mg "check_steps" sCheck) (B : Blt mg) (TC : ChainC K mg CC) (TS : Sp.StopC K mg c.S) (TW : Sw.SwapC K mg c.W) (TM : Sm.StemC K mg c.M) (k : Kits K c) (kA : KitA K mg c CA) :
    Ok P w K mg base "check_steps" (defArgs sCheck) ["steps"] 1 (spCheck c) := by
  refine D.ok scCheck (fun vs G Q E h => ?_) (fun _ _ _ _ _ _ us hl => match us, hl with | [_], _ => rfl) (fun f cdv A out t G vs Q E hr h => ?_)
  · obtain ⟨a, as, ss, rfl, _⟩ := h
    rfl
  · obtain ⟨a, as, ss, rfl, ha, hs, shape, few, kQ⟩ := h
    refine ⟨_, (pss_cons (ps_if (pt_cmpR op_gt (pe_callB call_len (by rfl) B.n_len bt_len (pa_cons (pv 0) pa_nil)) (pe_cval (pe_glob (v := .ref CC) rfl TC.g rfl)) (nomark _)) pss_dead pss_nil)
    (pss_cons (ps_for (passes_of rfl) rfl (pi_enumT (by rfl) B.n_enumerate (pa_cons (pv 0) pa_nil)) (pg_tup rfl (pgs_cons (pg_name (i := 1) scCheck.nd rfl (by first | exact Or.inl rfl | exact Or.inr rfl)) (pgs_cons (pg_name (i := 2) scCheck.nd rfl (by first | exact Or.inl rfl | exact Or.inr rfl)) pgs_nil)))
      (pss_one (ps_if (pt_not (pt_val (pe_callB call_isiT (by rfl) B.n_isinstance bt_isinstance (pa_cons (pv 2) (pa_cons (pn_tup (pa_cons (pe_glob (v := .ref c.S) rfl TS.g rfl) (pa_cons (pe_glob (v := .ref c.W) rfl TW.g rfl) (pa_cons (pe_glob (v := .ref c.M) rfl TM.g rfl) (pa_cons (pe_glob (v := .ref CA) rfl kA.g rfl) pa_nil))))) pa_nil))))) pss_dead pss_nil)))
    (pss_cons (ps_setLc (i := 3) (own := [("index", 1), ("step", 2)]) (tt := _) rfl scCheck.nd rfl rfl (sw_true rfl rfl rfl (by decide +kernel)) (pi_enumT (by rfl) B.n_enumerate (pa_cons (pv 0) pa_nil)) (blkOk_by (N := chkN) (sc := defScope sCheck) (by decide +kernel)) (fun _ _ _ _ _ => pg_tupK (K := K) (n := 2) rfl rfl (pgs_cons (pg_name (i := 1) scCheck.nd rfl (by first | exact Or.inl rfl | exact Or.inr rfl)) (pgs_cons (pg_name (i := 2) scCheck.nd rfl (by first | exact Or.inl rfl | exact Or.inr rfl)) pgs_nil))) (fun _ _ _ _ _ => pts_one (pt_val (pe_callB (r := rIsi K) call_isi (by rfl) B.n_isinstance bt_isinstance (pa_cons (pv 2) (pa_cons (pe_glob (v := .ref c.M) rfl TM.g rfl) pa_nil))))) (fun _ _ _ _ _ => pv 1))
    (pss_cons (ps_if (pt_cmpR op_gt (pe_callB call_len (by rfl) B.n_len bt_len (pa_cons (pv 3) pa_nil)) pe_int (nomark _)) pss_dead pss_nil)
    (pss_one (ps_for (passes_of rfl) rfl (pi_enumT (by rfl) B.n_enumerate (pa_cons (pe_slice sl_tupA (pv 0) po_none (po_some (pe_un un_neg pe_int))) pa_nil)) (pg_tup rfl (pgs_cons (pg_name (i := 1) scCheck.nd rfl (by first | exact Or.inl rfl | exact Or.inr rfl)) (pgs_cons (pg_name (i := 2) scCheck.nd rfl (by first | exact Or.inl rfl | exact Or.inr rfl)) pgs_nil)))
      (pss_one (ps_if (pt_val (pe_callB call_isi (by rfl) B.n_isinstance bt_isinstance (pa_cons (pv 2) (pa_cons (pe_glob (v := .ref CA) rfl kA.g rfl) pa_nil)))) pss_dead pss_nil)))))))), ?_⟩
    have al := hs.len
    obtain ⟨mc, u6, cr, cv⟩ := TC.most
    have tys : Paired ClsV [V.ref c.S, V.ref c.W, V.ref c.M, V.ref CA] [.ref c.S, .ref c.W, .ref c.M, .ref CA] := .cons (.own _) (.cons (.own _) (.cons (.own _) (.cons (.own _) .nil)))
    refine ⟨_, rfl, .ref a, _, rfl, .inr ⟨_, SqT.of ha, rfl⟩, CC, mc, .int 6, u6, rfl, cr, cv, _, _, rfl, rfl, _, rfl, ?_⟩
    refine ite2 (fun h1 => ?_) (fun _ => ?_)
    · have h1 := of_decide_eq_true h1
      rw [List.length_map] at h1
      omega
    refine ⟨_, rfl, a, _, rfl, SqT.of ha, for_it walk_enumT (fun i σ' G' => ∃ o1 o2 o3, σ' = [some (.ref a), o1, o2, o3] ∧ Same G G') ⟨none, none, none, rfl, Same.refl G⟩ (fun i σ' G' _ ⟨_, _, _, _, sm⟩ => SqT.of (sm _ _ ha)) ?_ ?_⟩
    · rintro i y σ1 G1 G2 hi ⟨o1, o2, o3, rfl, sm⟩ ⟨Tp, v1, v2, rfl, nTp, rfl, e1, e2⟩
      obtain ⟨ai, hai, rfl⟩ := map_at e2
      obtain ⟨s, hsi, hat⟩ := hs.get hai
      have s2 : Same G (L2.upd G1 Tp (.tup [v1, V.ref ai])) := sm.trans (Same.new nTp)
      refine ⟨Tp, _, rfl, SqT.of upd_same, rfl, _, _, rfl, _, _, rfl, rfl, ?_⟩
      refine ⟨_, rfl, by show 4 ≤ sizeLine; decide, fun tp G3 ntp s3 htp => ⟨_, tp, _, _, _, _, rfl, htp, tys, k.ty (WS.at.same hat (s2.trans s3)), KitA.any k kA s, _, rfl, iteF ?_⟩⟩
      exact ⟨_, _, _, rfl, s2.trans s3⟩
    rintro σ1 G1 ⟨o1, o2, o3, rfl, sm1⟩
    have ha1 := sm1 _ _ ha
    refine ⟨_, rfl, a, _, rfl, SqT.of ha1, fun P0 hP0 => lc_it walk_enumT (fun i G' => Same G1 G' ∧ G' P0 = some (.lst ((stemsAt 0 (ss.take i)).map fun n : Nat => V.int (n : Int)))) ⟨Same.new hP0, by rw [upd_same]; rfl⟩ (fun i G' _ p => SqT.of (p.1 _ _ ha1)) ?_ ?_⟩
    · rintro i y G2 G3 hi ⟨sm, hp⟩ ⟨Tp, v1, v2, rfl, nTp, rfl, e1, e2⟩
      rw [List.length_map, al] at hi
      obtain rfl : v1 = V.int (i : Int) := (Option.some.inj e1).symm
      obtain ⟨ai, hai, rfl⟩ := map_at e2
      obtain ⟨s, hsi, hat⟩ := hs.get hai
      have s2 : Same G1 (L2.upd G2 Tp (.tup [V.int (i : Int), V.ref ai])) := sm.trans (Same.new nTp)
      have hp2 : L2.upd G2 Tp (.tup [V.int (i : Int), V.ref ai]) P0 = some (.lst ((stemsAt 0 (ss.take i)).map fun n : Nat => V.int (n : Int))) := by
        rw [upd_ne (fun z => by rw [z, nTp] at hp; cases hp)]
        exact hp
      have ht : stemsAt 0 (ss.take (i + 1)) = stemsAt 0 (ss.take i) ++ (if s.isM = true then [i] else []) := by
        rw [take_get hsi, stemsAt_append, Nat.zero_add, List.length_take, Nat.min_eq_left (Nat.le_of_lt hi)]
        rfl
      refine ⟨Tp, _, rfl, SqT.of upd_same, rfl, _, _, rfl, _, _, rfl, rfl, rfl, _, rfl, _, _, _, _, _, rfl, .own c.M, k.ty (WS.at.same hat (sm1.trans s2)), k.isM s, _, rfl, ?_⟩
      refine ite2 (fun hm => ?_) (fun hm => ?_)
      · refine ⟨_, rfl, _, hp2, ?_, Qh.Same.fresh s2 hP0, ?_⟩
        · have := stemsAt_len (ss.take i) 0
          rw [List.length_take] at this
          rw [List.length_map]
          exact big_line' (by omega)
        · rw [upd_same, ht, if_pos hm, List.map_append]
          rfl
      · refine ⟨s2, ?_⟩
        rw [ht, if_neg hm, List.append_nil]
        exact hp2
    rintro G2 ⟨sm2, hp⟩
    rw [List.length_map, al, List.take_length] at hp
    have s12 := sm1.trans sm2
    have ha2 := s12 _ _ ha
    refine ⟨_, rfl, .ref P0, _, rfl, .inl ⟨_, SqL.of hp, rfl⟩, _, _, rfl, rfl, _, rfl, ?_⟩
    refine ite2 (fun h1 => ?_) (fun _ => ?_)
    · have h1 := of_decide_eq_true h1
      rw [List.length_map] at h1
      have := shape.few
      omega
    refine ⟨_, rfl, _, rfl, _, rfl, a, _, rfl, SqT.of ha2, fun _ => ?_, fun _ p hp0 => ?_⟩
    · refine ⟨a, _, rfl, SqT.of ha2, for_it walk_enumT (fun i σ' G' => ∃ o1 o2 o3, σ' = [some (.ref a), o1, o2, o3] ∧ Same G G') ⟨_, _, _, rfl, s12⟩ (fun i σ' G' _ ⟨_, _, _, _, sm⟩ => SqT.of (sm _ _ ha)) ?_ ?_⟩
      · rintro i y σ1 G3 G4 hi ⟨o1, o2, o3, rfl, sm⟩ ⟨Tp, v1, v2, rfl, nTp, rfl, e1, e2⟩
        obtain ⟨ai, hai, rfl⟩ := map_at e2
        obtain ⟨s, hsi, hat⟩ := hs.get hai
        have s2 : Same G (L2.upd G3 Tp (.tup [v1, V.ref ai])) := sm.trans (Same.new nTp)
        refine ⟨Tp, _, rfl, SqT.of upd_same, rfl, _, _, rfl, _, _, rfl, rfl, ?_⟩
        exact ⟨_, rfl, _, _, _, _, _, rfl, .own CA, k.ty (WS.at.same hat s2), kA.isA s, _, rfl, iteF ⟨_, _, _, rfl, s2⟩⟩
      · rintro σ1 G3 ⟨o1, o2, o3, rfl, sm⟩
        exact kQ G3 sm
    · have sp : Same G (L2.upd G2 p (.tup (cutV (as.map V.ref) none (some (-1))))) := s12.trans (Same.new hp0)
      refine ⟨p, _, rfl, SqT.of upd_same, for_it walk_enumT (fun i σ' G' => ∃ o1 o2 o3, σ' = [some (.ref a), o1, o2, o3] ∧ Same G G' ∧ G' p = some (.tup (cutV (as.map V.ref) none (some (-1))))) ⟨_, _, _, rfl, sp, upd_same⟩ (fun i σ' G' _ ⟨_, _, _, _, _, hh⟩ => SqT.of hh) ?_ ?_⟩
      · rintro i y σ1 G3 G4 hi ⟨o1, o2, o3, rfl, sm, hh⟩ ⟨Tp, v1, v2, rfl, nTp, rfl, e1, e2⟩
        obtain ⟨ai, hai, rfl⟩ := List.mem_map.mp (cutV_mem (List.mem_of_getElem? e2))
        obtain ⟨s, hat⟩ := hs.mem hai
        have s2 : Same G (L2.upd G3 Tp (.tup [v1, V.ref ai])) := sm.trans (Same.new nTp)
        refine ⟨Tp, _, rfl, SqT.of upd_same, rfl, _, _, rfl, _, _, rfl, rfl, ?_⟩
        exact ⟨_, rfl, _, _, _, _, _, rfl, .own CA, k.ty (WS.at.same hat s2), kA.isA s, _, rfl, iteF ⟨_, _, _, rfl, s2, Same.new nTp _ _ hh⟩⟩
      · rintro σ1 G3 ⟨o1, o2, o3, rfl, sm, _⟩
        exact kQ G3 sm
theorem scChkDrop : FnScope ["steps", "rules", "step", "number", "rule", "side"] ["steps", "rules"] (defScope sChkDrop) := ⟨rfl, rfl, rfl, by decide +kernel, rfl, by decide +kernel, by decide +kernel⟩
def spChkDrop (c : C4) : Sp := fun vs G Q _ => ∃ (a r : Addr) (as : List Addr) (ss : List WS), vs = [.ref a, .ref r] ∧ G a = some (.tup (as.map V.ref)) ∧ G r = some (.tup []) ∧ AllAt c G as ss ∧ ss.length ≤ 6 ∧ ∀ G', Same G G' → Q .non G'
theorem ok_chkDrop {c : C4} (D : DefIn K mg "check_drop" sChkDrop) (B : Blt mg) (gD : mg "Drop" = some (.ref c.D)) (k : Kits K c) :
    Ok P w K mg base "check_drop" (defArgs sChkDrop) ["steps", "rules"] 1 (spChkDrop c) := by
  refine D.ok scChkDrop (fun vs G Q E h => ?_) (fun _ _ _ _ _ _ us hl => match us, hl with | [_, _], _ => rfl) (fun f cdv A out t G vs Q E hr h => ?_)
  · obtain ⟨a, r, as, ss, rfl, _⟩ := h
    rfl
  · obtain ⟨a, r, as, ss, rfl, ha, hr0, hs, few, kQ⟩ := h
    refine ⟨_, (pss_cons (ps_if (pt_not (pt_val (pe_callB (cr_any rfl) (by rfl) B.n_any bt_any (pa_cons (pe_lc (own := [("step", 2)]) (tt := tYes) rfl scChkDrop.nd (pi_tup (pv 0)) (blkOk_by (N := ["steps", "rules", "step", "number", "rule", "side"]) (sc := defScope sChkDrop) (by decide +kernel)) (fun _ _ _ _ _ => pg_name (i := 2) scChkDrop.nd rfl (by first | exact Or.inl rfl | exact Or.inr rfl)) (fun _ _ _ _ _ => pts_nil) (fun _ _ _ _ _ => (pe_callB (r := rIsi K) call_isi (by rfl) B.n_isinstance bt_isinstance (pa_cons (pv 2) (pa_cons (pe_glob (v := .ref c.D) rfl gD rfl) pa_nil))))) pa_nil)))) (pss_one (ps_retN)) pss_nil)
    (pss_one (ps_for (passes_of rfl) rfl (pi_enumT (by rfl) B.n_enumerate (pa_cons (pv 1) pa_nil)) (pg_tup rfl (pgs_cons (pg_name (i := 3) scChkDrop.nd rfl (by first | exact Or.inl rfl | exact Or.inr rfl)) (pgs_cons (pg_name (i := 4) scChkDrop.nd rfl (by first | exact Or.inl rfl | exact Or.inr rfl)) pgs_nil))) pss_dead))), ?_⟩
    have al := hs.len
    refine ⟨_, rfl, a, rfl, ⟨_, SqT.of ha⟩, fun D0 hD0 => lc_it walk_tup (fun i G' => Same G G' ∧ G' D0 = some (.lst ((ss.take i).map fun s => V.bl s.isD))) ⟨Same.new hD0, by rw [upd_same]; rfl⟩ (fun i G' _ p => SqT.of (p.1 _ _ ha)) ?_ ?_⟩
    · rintro i y G1 G2 hi ⟨sm, hp⟩ ⟨rfl, e2⟩
      obtain ⟨ai, hai, rfl⟩ := map_at e2
      obtain ⟨s, hsi, hat⟩ := hs.get hai
      refine ⟨rfl, _, rfl, _, _, _, _, _, rfl, .own c.D, k.ty (WS.at.same hat sm), k.isD s, _, hp, ?_, Qh.Same.fresh sm hD0, ?_⟩
      · rw [List.length_map, List.length_take]
        exact big_line' (by omega)
      · rw [upd_same, take_get hsi, List.map_append]
        rfl
    · rintro G1 ⟨sm, hp⟩
      rw [List.length_map, al, List.take_length] at hp
      refine ⟨D0, ss.map (·.isD), rfl, SqL.of (by rw [hp, List.map_map]; rfl), _, rfl, ?_⟩
      refine ite2 (fun h1 => ?_) (fun h1 => ?_)
      · exact kQ G1 sm
      · refine ⟨_, rfl, r, _, rfl, SqT.of (sm _ _ hr0), for_it walk_enumT (fun i σ' G' => Same G G') sm (fun i σ' G' _ sm => SqT.of (sm _ _ hr0)) ?_ ?_⟩
        · intro i y σ1 G2 G3 hi
          exact absurd hi (Nat.not_lt_zero i)
        · intro σ1 G2 sm
          exact kQ G2 sm
theorem scChkSides : FnScope ["rules", "number", "rule", "side"] ["rules"] (defScope sChkSides) := ⟨rfl, rfl, rfl, by decide +kernel, rfl, by decide +kernel, by decide +kernel⟩
def spChkSides : Sp := fun vs G Q _ => ∃ a : Addr, vs = [.ref a] ∧ G a = some (.lst []) ∧ ∀ G', Same G G' → Q .non G'
theorem ok_chkSides (D : DefIn K mg "check_sides" sChkSides) (B : Blt mg) : Ok P w K mg base "check_sides" (defArgs sChkSides) ["rules"] 1 spChkSides := by
  refine D.ok scChkSides (fun vs G Q E h => ?_) (fun _ _ _ _ _ _ us hl => match us, hl with | [_], _ => rfl) (fun f cdv A out t G vs Q E hr h => ?_)
  · obtain ⟨a, rfl, _⟩ := h
    rfl
  · obtain ⟨a, rfl, ha, kQ⟩ := h
    refine ⟨_, (pss_one (ps_for (passes_of rfl) rfl (pi_enum (by rfl) B.n_enumerate (pa_cons (pv 0) pa_nil)) (pg_tup rfl (pgs_cons (pg_name (i := 1) scChkSides.nd rfl (by first | exact Or.inl rfl | exact Or.inr rfl)) (pgs_cons (pg_name (i := 2) scChkSides.nd rfl (by first | exact Or.inl rfl | exact Or.inr rfl)) pgs_nil))) pss_dead)), ?_⟩
    refine ⟨_, rfl, a, _, rfl, SqL.of ha, for_it walk_enum (fun i σ' G' => Same G G') (Same.refl G) (fun i σ' G' _ sm => SqL.of (sm _ _ ha)) ?_ ?_⟩
    · intro i y σ1 G2 G3 hi
      exact absurd hi (Nat.not_lt_zero i)
    · intro σ1 G2 sm
      exact kQ G2 sm
theorem scEach : FnScope ["sides", "side"] ["sides"] (defScope sEach) := ⟨rfl, rfl, rfl, by decide +kernel, rfl, by decide +kernel, by decide +kernel⟩
def spEach : Sp := fun vs G Q _ => ∃ a : Addr, vs = [.ref a] ∧ G a = some (.lst []) ∧ ∀ p G', G p = none → Same G G' → G' p = some (.tup []) → Q (.ref p) G'
theorem ok_each (D : DefIn K mg "each_once" sEach) (B : Blt mg) : Ok P w K mg base "each_once" (defArgs sEach) ["sides"] 1 spEach := by
  refine D.ok scEach (fun vs G Q E h => ?_) (fun _ _ _ _ _ _ us hl => match us, hl with | [_], _ => rfl) (fun f cdv A out t G vs Q E hr h => ?_)
  · obtain ⟨a, rfl, _⟩ := h
    rfl
  · obtain ⟨a, rfl, ha, kQ⟩ := h
    refine ⟨_, (pss_one (ps_ret (pe_callTy (cn_tupleD rfl) (by rfl) B.n_tuple bt_tuple (pa_cons (pe_dc0 (own := [("side", 1)]) rfl scEach.nd (pi_list (pv 0)) (blkOk_by (N := ["sides", "side"]) (sc := defScope sEach) (by decide +kernel))) pa_nil)))), ?_⟩
    refine ⟨_, rfl, a, rfl, ⟨_, SqL.of ha⟩, fun D0 hD0 => ⟨⟨[], SqL.of (Same.new hD0 _ _ ha), Nat.le_refl _⟩, D0, rfl, .inl ⟨[], upd_same, fun l H' hl sm hl2 => ?_⟩⟩⟩
    exact kQ l H' ((Same.new hD0).free hl) ((Same.new hD0).trans sm) hl2
theorem scMeet : FnScope ["rules", "keep", "found", "met", "rule", "side", "entry", "pairs"] ["rules", "keep"] (defScope sMeet) := ⟨rfl, rfl, rfl, by decide +kernel, rfl, by decide +kernel, by decide +kernel⟩
def spMeet : Sp := fun vs G Q _ => ∃ (a : Addr) (v : V), vs = [.ref a, v] ∧ G a = some (.tup []) ∧ ∀ p G', G p = none → Same G G' → G' p = some (.dK []) → Q (.ref p) G'
theorem ok_meet (D : DefIn K mg "meetings_of" sMeet) (B : Blt mg) (F_each : Ok P w K mg base "each_once" (defArgs sEach) ["sides"] 1 spEach) : Ok P w K mg base "meetings_of" (defArgs sMeet) ["rules", "keep"] 2 spMeet := by
  refine D.ok scMeet (fun vs G Q E h => ?_) (fun _ _ _ _ _ _ us hl => match us, hl with | [_, _], _ => rfl) (fun f cdv A out t G vs Q E hr h => ?_)
  · obtain ⟨a, v, rfl, _⟩ := h
    rfl
  · obtain ⟨a, v, rfl, ha, kQ⟩ := h
    refine ⟨_, (pss_cons (ps_set (i := 2) scMeet.nd rfl (by first | exact Or.inl rfl | exact Or.inr rfl) pe_dnewK)
    (pss_cons (ps_for (passes_of rfl) rfl (pi_tup (pe_own F_each (hr.mono (by decide)) takes0 (pa_cons (pe_lc0 (own := [("rule", 4), ("side", 5)]) rfl scMeet.nd (pi_tup (pv 0)) (blkOk_by (N := ["rules", "keep", "found", "met", "rule", "side", "entry", "pairs"]) (sc := defScope sMeet) (by decide +kernel))) pa_nil))) (pg_name (i := 3) scMeet.nd rfl (by first | exact Or.inl rfl | exact Or.inr rfl)) pss_dead)
    (pss_one (ps_ret (pe_dc0 (own := [("entry", 6), ("pairs", 7)]) rfl scMeet.nd (pi_items (pe_lk (pv 2))) (blkOk_by (N := ["rules", "keep", "found", "met", "rule", "side", "entry", "pairs"]) (sc := defScope sMeet) (by decide +kernel))))))), ?_⟩
    refine fun D0 hD0 => ?_
    have s0 : Same G (L2.upd G D0 (.dK [])) := Same.new hD0
    have ha0 := s0 _ _ ha
    refine ⟨_, rfl, a, rfl, ⟨_, SqT.of ha0⟩, fun L hL => ⟨⟨[], SqT.of (Same.new hL _ _ ha0), Nat.le_refl _⟩, L, rfl, upd_same, fun p G1 np s1 hp => ?_⟩⟩
    have s1' : Same G G1 := s0.trans ((Same.new hL).trans s1)
    have hD1 : G1 D0 = some (.dK []) := s1 _ _ (Same.new hL _ _ upd_same)
    refine ⟨p, rfl, ⟨_, SqT.of hp⟩, for_it walk_tup (fun i σ' G' => G' = G1 ∧ ∃ o1 o3 o4 o5 o6 o7, σ' = [some (.ref a), o1, some (.ref D0), o3, o4, o5, o6, o7]) ⟨rfl, _, _, _, _, _, _, rfl⟩ (fun i σ' G' _ h => by rw [h.1]; exact SqT.of hp) ?_ ?_⟩
    · intro i y σ1 G2 G3 hi
      exact absurd hi (Nat.not_lt_zero i)
    · rintro σ1 G2 ⟨rfl, o1, o3, o4, o5, o6, o7, rfl⟩
      refine ⟨_, rfl, D0, [], rfl, hD1, fun o => ⟨D0, o, [], rfl, upd_same, fun D2 hD2 => ⟨⟨?_, Nat.le_refl _⟩, ?_⟩⟩⟩
      · rw [upd_ne (fun z => by rw [← z, upd_same] at hD2; cases hD2)]
        exact upd_same
      · have n2 : G2 D2 = none := by
          by_cases e : D2 = D0
          · rw [e, upd_same] at hD2
            cases hD2
          · rw [upd_ne e] at hD2
            exact hD2
        refine kQ D2 _ (s1'.free n2) (fun b ob eb => ?_) upd_same
        have e1 : b ≠ D0 := fun z => by rw [z, hD0] at eb; cases eb
        have e2 : b ≠ D2 := fun z => by rw [z, s1'.free n2] at eb; cases eb
        rw [upd_ne e2, upd_ne e1]
        exact s1' _ _ eb
theorem scBegins : FnScope ["rules", "begins", "rule", "side", "many"] ["rules"] (defScope sBegins) := ⟨rfl, rfl, rfl, by decide +kernel, rfl, by decide +kernel, by decide +kernel⟩
def spBegins : Sp := fun vs G Q _ => ∃ (a : Addr), vs = [.ref a] ∧ G a = some (.tup []) ∧ ∀ p G', G p = none → Same G G' → G' p = some (.dT [([], .bl true)]) → Q (.ref p) G'
theorem ok_begins (D : DefIn K mg "begins_of" sBegins) (B : Blt mg) : Ok P w K mg base "begins_of" (defArgs sBegins) ["rules"] 1 spBegins := by
  refine D.ok scBegins (fun vs G Q E h => ?_) (fun _ _ _ _ _ _ us hl => match us, hl with | [_], _ => rfl) (fun f cdv A out t G vs Q E hr h => ?_)
  · obtain ⟨a, rfl, _⟩ := h
    rfl
  · obtain ⟨a, rfl, ha, kQ⟩ := h
    have hu0 := Nat.lt_of_le_of_lt (Nat.le_add_right _ 64) hr.units
    refine ⟨_, (pss_cons (ps_set (i := 1) scBegins.nd rfl (by first | exact Or.inl rfl | exact Or.inr rfl) (pe_dispT hu0 (pn_tup pa_nil) pe_bl))
    (pss_cons (ps_for (passes_of rfl) rfl (pi_tup (pv 0)) (pg_name (i := 2) scBegins.nd rfl (by first | exact Or.inl rfl | exact Or.inr rfl)) pss_dead)
    (pss_one (ps_ret (pv 1))))), ?_⟩
    refine fun D0 hD0 => ⟨by show 0 ≤ sizeLine; decide, fun p G1 np s1 hp => ⟨s1 _ _ upd_same, p, [], rfl, hp, ?_⟩⟩
    have s0 : Same G (L2.upd G1 D0 (.dT [([], .bl true)])) := fun b ob eb => by
      have : b ≠ D0 := fun z => by rw [z, hD0] at eb; cases eb
      rw [upd_ne this]
      exact ((Same.new hD0).trans s1) _ _ eb
    have ha0 := s0 _ _ ha
    refine ⟨_, rfl, a, rfl, ⟨_, SqT.of ha0⟩, for_it walk_tup (fun i σ' G' => G' = L2.upd G1 D0 (.dT [([], .bl true)]) ∧ ∃ o2 o3 o4, σ' = [some (.ref a), some (.ref D0), o2, o3, o4]) ⟨rfl, _, _, _, rfl⟩ (fun i σ' G' _ h => by rw [h.1]; exact SqT.of ha0) ?_ ?_⟩
    · intro i y σ1 G2 G3 hi
      exact absurd hi (Nat.not_lt_zero i)
    · rintro σ1 G2 ⟨rfl, o2, o3, o4, rfl⟩
      exact ⟨_, rfl, kQ D0 _ hD0 s0 upd_same⟩
end
end K07
set_option Elab.async false
set_option linter.all false
set_option maxRecDepth 100000
set_option maxHeartbeats 8000000
namespace K07
open PySem PySem.Spec PyProof.Rows L2 TL Qh Qi Ql ClX Qmk Qmg Qde Qtb Qtd RT
abbrev sChainInit : Stmt := inClass (top 78) 2
structure ChainI (K : PySem.W.Frag) (CC : Addr) : Prop where
  cl : Cls K CC
  n1 : NoAttr K CC "steps"
  n2 : NoAttr K CC "turning"
  n3 : NoAttr K CC "keep"
  n4 : NoAttr K CC "rules"
  n5 : NoAttr K CC "meetings"
  n6 : NoAttr K CC "begins"
  n7 : NoAttr K CC "sided"
/-- a chain of these steps, without rules -/
def ChainAt (c : C4) (CC CT : Addr) (G : Hp) (x : Addr) (ss : List WS) : Prop := ∃ (dx S T : Addr) (as : List Addr) (v4 v5 v6 v7 : V), G x = some (.ins CC dx [("steps", .ref S), ("turning", .ref T), ("keep", .bl true), ("rules", v4), ("meetings", v5), ("begins", v6), ("sided", v7)]) ∧
  G S = some (.tup (as.map V.ref)) ∧ AllAt c G as ss ∧ TurnAt c CT G T ss
def spChainBody (c : C4) (CC CT : Addr) : Sp := fun vs G Q _ => ∃ (x dx p : Addr) (as : List Addr) (ss : List WS), vs = [.ref x, .ref p] ∧ G x = some (.ins CC dx []) ∧ G p = some (.tup (as.map V.ref)) ∧ AllAt c G as ss ∧ Shape ss ∧ ss.length ≤ 6 ∧
  ∀ G', Kp x G G' → ChainAt c CC CT G' x ss → Q .non G'
abbrev chN : List Str := ["self", "steps", "step", "written", "rules", "side", "rule", "entry"]
theorem ite_or {b : Bool} {A B : Prop} (h1 : b = true → B → A) (h2 : B) : if b = true then A else B := by
  by_cases h : b = true
  · rw [if_pos h]
    exact h1 h h2
  · rw [if_neg h]
    exact h2
section
variable {P : Program} {w : World} {K : PySem.W.Frag} {mg : Str → Option Value} {base : Heap}
theorem scChainInit : FnScope chN ["self", "steps"] (defScope sChainInit) := ⟨rfl, rfl, rfl, by decide +kernel, rfl, by decide +kernel, by decide +kernel⟩
theorem body_chain {c : C4} {CC CT CA fT : Addr} (B : Blt mg) (TC : ChainC K mg CC) (T : ChainI K CC) (k : Kits K c) (kA : KitA K mg c CA) (gT : mg "Turning" = some (.ref CT)) (MT : Mk K CT fT)
    (F_check : Ok P w K mg base "check_steps" (defArgs sCheck) ["steps"] 1 (spCheck c)) (F_drop : Ok P w K mg base "check_drop" (defArgs sChkDrop) ["steps", "rules"] 1 (spChkDrop c)) (F_sides : Ok P w K mg base "check_sides" (defArgs sChkSides) ["rules"] 1 spChkSides)
    (F_each : Ok P w K mg base "each_once" (defArgs sEach) ["sides"] 1 spEach) (F_meet : Ok P w K mg base "meetings_of" (defArgs sMeet) ["rules", "keep"] 2 spMeet) (F_begins : Ok P w K mg base "begins_of" (defArgs sBegins) ["rules"] 1 spBegins) (FT : FnR P w K mg base (L2.CX P w) 4 fT (spTurn c CT))
    {f : Addr} (cdv : Value) (A : Around) (out : List Env) (t : Shared) (G : Hp) (vs : List V) (Q : VK) (E : XK) (hr : Room 5 (A.deeper (envOfC "Chain.__init__" (defScope sChainInit) t.heap.objs.size f cdv))) (h : spChainBody c CC CT vs G Q E) :
    ∃ rd, PSs (cxOf (L2.CX P w) P w K mg base chN "Chain.__init__" (defScope sChainInit) f cdv A out t G E) (defBody sChainInit) rd ∧ rd { nx := fun _ G' => Q .non G', rt := Q } (start chN vs) G := by
  obtain ⟨x, dx, p, as, ss, rfl, hx, hp, hs, shape, few, kQ⟩ := h
  refine ⟨_, (pss_cons (ps_expr (pe_own F_check (hr.mono (by decide)) takes0 (pa_cons (pv 1) pa_nil)))
    (pss_cons (ps_fld (pv 0) (pv 1) rfl)
    (pss_cons (ps_fld (pv 0) (pe_makeS MT FT (hr.mono (by decide)) takes0 gT (pa_cons (pe_lc (own := [("step", 2)]) (tt := _) rfl scChainInit.nd (pi_tup (pv 1)) (blkOk_by (N := chN) (sc := defScope sChainInit) (by decide +kernel)) (fun _ _ _ _ _ => pg_name (i := 2) scChainInit.nd rfl (by first | exact Or.inl rfl | exact Or.inr rfl)) (fun _ _ _ _ _ => pts_one (pt_not (pt_val (pe_callB (r := rIsi K) call_isi (by rfl) B.n_isinstance bt_isinstance (pa_cons (pv 2) (pa_cons (pe_glob (v := .ref CA) rfl kA.g rfl) pa_nil)))))) (fun _ _ _ _ _ => pv 2)) pa_nil)) rfl)
    (pss_cons (ps_fld (pv 0) pe_bl rfl)
    (pss_cons (ps_set (i := 3) scChainInit.nd rfl (by first | exact Or.inl rfl | exact Or.inr rfl) (pn_tup pa_nil))
    (pss_cons (ps_if (PW.pt (pw_and (pt_cmpR op_gt (pe_callB call_len (by rfl) B.n_len bt_len (pa_cons (pv 1) pa_nil)) pe_int (nomark _)) (pw_and1 (pt_val (pe_callB call_isi (by rfl) B.n_isinstance bt_isinstance (pa_cons (pe_ix ix_tup (pv 1) (pe_un un_neg pe_int) (fun _ _ => rfl)) (pa_cons (pe_glob (v := .ref CA) rfl kA.g rfl) pa_nil))))))) pss_dead pss_nil)
    (pss_cons (ps_expr (pe_own F_drop (hr.mono (by decide)) takes0 (pa_cons (pv 1) (pa_cons (pv 3) pa_nil))))
    (pss_cons (ps_setLc (i := 4) (own := [("rule", 6)]) (tt := tYes) rfl scChainInit.nd rfl rfl (sw_true rfl rfl rfl (by decide +kernel)) (pi_tup (pv 3)) (blkOk_by (N := chN) (sc := defScope sChainInit) (by decide +kernel)) (fun _ _ _ _ _ => pg_name (i := 6) scChainInit.nd rfl (by first | exact Or.inl rfl | exact Or.inr rfl)) (fun _ _ _ _ _ => pts_nil) (fun _ _ _ _ _ => pe_dead))
    (pss_cons (ps_expr (pe_own F_sides (hr.mono (by decide)) takes0 (pa_cons (pv 4) pa_nil)))
    (pss_cons (ps_fld (pv 0) (pe_callTy call_tuple_of (by rfl) B.n_tuple bt_tuple (pa_cons (pe_lc (own := [("rule", 6)]) (tt := tYes) rfl scChainInit.nd (pi_list (pv 4)) (blkOk_by (N := chN) (sc := defScope sChainInit) (by decide +kernel)) (fun _ _ _ _ _ => pg_name (i := 6) scChainInit.nd rfl (by first | exact Or.inl rfl | exact Or.inr rfl)) (fun _ _ _ _ _ => pts_nil) (fun _ _ _ _ _ => pe_dead)) pa_nil)) rfl)
    (pss_cons (ps_fld (pv 0) (pe_own F_meet (hr.mono (by decide)) takes0 (pa_cons (pe_fld (pv 0) rfl) (pa_cons (pe_fld (pv 0) rfl) pa_nil))) rfl)
    (pss_cons (ps_fld (pv 0) (pe_own F_begins (hr.mono (by decide)) takes0 (pa_cons (pe_fld (pv 0) rfl) pa_nil)) rfl)
    (pss_one (ps_fld (pv 0) (pe_dc0 (own := [("rule", 6), ("side", 5), ("entry", 7)]) rfl scChainInit.nd (pi_tup (pe_fld (pv 0) rfl)) (blkOk_by (N := chN) (sc := defScope sChainInit) (by decide +kernel))) rfl)))))))))))))), ?_⟩
  have al := hs.len
  have px : p ≠ x := fun z => by rw [z, hx] at hp; cases hp
  refine ⟨_, rfl, p, as, ss, rfl, hp, hs, shape, few, fun G1 s1 => ?_⟩
  have hx1 := s1 _ _ hx
  refine ⟨_, rfl, _, rfl, x, CC, dx, [], rfl, hx1, T.cl, T.n1, by show 0 < 1000; decide, ?_⟩
  have e1 : putF (Str.ofString "steps") (V.ref p) [] = ([("steps", .ref p)] : List (Str × V)) := rfl
  rw [e1]
  generalize hG2 : L2.upd G1 x (.ins CC dx [("steps", .ref p)]) = G2
  have k2 : Kp x G G2 := fun b o ne e => by rw [← hG2, upd_ne ne]; exact s1 _ _ e
  have hx2 : G2 x = some (.ins CC dx [("steps", .ref p)]) := by rw [← hG2, upd_same]
  have hp2 := k2 _ _ px hp
  -- the turning
  refine ⟨_, rfl, p, rfl, ⟨_, SqT.of hp2⟩, fun L hL => lc_it walk_tup (fun i G' => Same G2 G' ∧ G' L = some (.lst ((as.take i).map V.ref))) ⟨Same.new hL, by rw [upd_same]; rfl⟩ (fun i G' _ p => SqT.of (p.1 _ _ hp2)) ?_ ?_⟩
  · rintro i y G3 G4 hi ⟨sm, hl⟩ ⟨rfl, e2⟩
    obtain ⟨ai, hai, rfl⟩ := map_at e2
    obtain ⟨s, hsi, hat⟩ := hs.get hai
    have hat4 : s.at c G4 ai := WS.at.same (WS.at.kp hat k2 hx) sm
    refine ⟨rfl, _, rfl, _, _, _, _, _, rfl, .own CA, k.ty hat4, kA.isA s, _, rfl, ?_⟩
    refine ⟨_, rfl, _, hl, ?_, Qh.Same.fresh sm hL, ?_⟩
    · rw [List.length_map, List.length_take]
      exact big_line' (by omega)
    · rw [upd_same, take_get hai, List.map_append]
      rfl
  rintro G3 ⟨s3, hl3⟩
  rw [List.length_map, List.take_length] at hl3
  intro tn dt htn hdt ndt
  have sN : Same G3 (L2.upd (L2.upd G3 dt (.own tn)) tn (.ins CT dt [])) := fun b o e => by rw [upd_ne (ne_of_none e htn), upd_ne (ne_of_none e hdt)]; exact e
  refine ⟨tn, dt, L, as, ss, rfl, upd_same, sN _ _ hl3, (AllAt.kp k2 hx notStep0 hs).same (s3.trans sN), shape, by omega, fun G5 k5 ta => ⟨rfl, ?_⟩⟩
  have xt : x ≠ tn := fun z => by
    have := s3 _ _ hx2
    rw [z, htn] at this
    cases this
  have hx5 : G5 x = some (.ins CC dx [("steps", .ref p)]) := k5 _ _ xt (sN _ _ (s3 _ _ hx2))
  have k25 : ∀ b o, b ≠ tn → G2 b = some o → G5 b = some o := fun b o ne e => k5 _ _ ne (sN _ _ (s3 _ _ e))
  have oldT : ∀ {b o}, G2 b = some o → b ≠ tn := fun {b o} e z => by
    have := s3 _ _ e
    rw [z, htn] at this
    cases this
  have s25 : Same G2 G5 := fun b o e => k25 b o (oldT e) e
  have hp5 := s25 _ _ hp2
  have kk5 : Kp x G G5 := fun b o ne e => s25 _ _ (k2 _ _ ne e)
  have hs5 : AllAt c G5 as ss := (AllAt.kp k2 hx notStep0 hs).same s25
  refine ⟨_, rfl, x, CC, dx, _, rfl, hx5, T.cl, T.n2, by show 1 < 1000; decide, _, rfl, x, CC, dx, _, rfl, upd_same, T.cl, T.n3, by show 2 < 1000; decide, ?_⟩
  rw [show putF (Str.ofString "keep") (V.bl true) (putF (Str.ofString "turning") (V.ref tn) [(Str.ofString "steps", V.ref p)]) = ([("steps", .ref p), ("turning", .ref tn), ("keep", .bl true)] : List (Str × V)) from rfl]
  generalize hG7 : L2.upd (L2.upd G5 x (HO.ins CC dx (putF (Str.ofString "turning") (V.ref tn) [(Str.ofString "steps", V.ref p)]))) x (.ins CC dx ([("steps", .ref p), ("turning", .ref tn), ("keep", .bl true)] : List (Str × V))) = G7
  have k57 : Kp x G5 G7 := fun b o ne e => by rw [← hG7, upd_ne ne, upd_ne ne]; exact e
  have hx7 : G7 x = some (.ins CC dx [("steps", .ref p), ("turning", .ref tn), ("keep", .bl true)]) := by rw [← hG7, upd_same]
  have hp7 := k57 _ _ px hp5
  -- no rules are written
  refine ⟨by show 0 ≤ sizeLine; decide, fun w0 G8 nw8 s8 hw8 => ?_⟩
  have hp8 := s8 _ _ hp7
  have hx8 := s8 _ _ hx7
  have kk8 : Kp x G G8 := fun b o ne e => s8 _ _ (k57 _ _ ne (kk5 _ _ ne e))
  have hs8 : AllAt c G8 as ss := AllAt.kp kk8 hx notStep0 hs
  refine ⟨_, rfl, .ref p, _, rfl, .inr ⟨_, SqT.of hp8, rfl⟩, _, _, rfl, rfl, _, rfl, ?_⟩
  refine ite_or (fun h1 hq => ?_) (iteF ?_)
  · have h1 := of_decide_eq_true h1
    rw [List.length_map] at h1
    rcases List.eq_nil_or_concat as with e | ⟨ini, z, e⟩
    · rw [e] at h1
      exact absurd h1 (by decide)
    · rw [List.concat_eq_append] at e
      subst e
      have e9 : (ini ++ [z]).map V.ref = ini.map V.ref ++ [V.ref z] := by rw [List.map_append]; rfl
      obtain ⟨s, hat⟩ := hs8.mem (a := z) (List.mem_append_right _ (List.mem_singleton.mpr rfl))
      exact ⟨_, rfl, _, rfl, p, _, _, _, rfl, rfl, SqT.of hp8, by rw [e9]; exact atI_last _ _, _, _, _, _, _, rfl, .own CA, k.ty hat, kA.isA s, _, rfl, hq⟩
  refine ⟨_, rfl, _, rfl, p, w0, as, ss, rfl, hp8, hw8, hs8, few, fun G9 s9 => ?_⟩
  have hw9 := s9 _ _ hw8
  refine ⟨_, rfl, w0, rfl, ⟨_, SqT.of hw9⟩, fun M2 hM2 => lc_it (te := tDeadE) walk_tup (fun i G' => Same G9 G' ∧ G' M2 = some (.lst [])) ⟨Same.new hM2, upd_same⟩ (fun i G' _ p => SqT.of (p.1 _ _ hw9)) (fun i y G' G'' hi => absurd hi (Nat.not_lt_zero i)) ?_⟩
  rintro G10 ⟨s10, hl10⟩
  refine ⟨_, rfl, M2, rfl, hl10, fun G11 s11 => ?_⟩
  have hl11 := s11 _ _ hl10
  refine ⟨_, rfl, M2, rfl, ⟨_, SqL.of hl11⟩, fun L3 hL3 => lc_it (te := tDeadE) walk_list (fun i G' => Same G11 G' ∧ G' L3 = some (.lst [])) ⟨Same.new hL3, upd_same⟩ (fun i G' _ p => SqL.of (p.1 _ _ hl11)) (fun i y G' G'' hi => absurd hi (Nat.not_lt_zero i)) ?_⟩
  rintro G12 ⟨s12, hl12⟩
  have s8c : Same G8 G12 := s9.trans (s10.trans (s11.trans s12))
  refine ⟨L3, [], rfl, .inl ⟨SqL.of hl12, fun r4 hr4 => ?_⟩⟩
  have s13 : Same G12 (L2.upd G12 r4 (.tup [])) := Same.new hr4
  have hx13 := s13 _ _ (s8c _ _ hx8)
  have r4x : r4 ≠ x := fun z => by
    have := s8c _ _ hx8
    rw [← z, hr4] at this
    cases this
  refine ⟨_, rfl, x, CC, dx, _, rfl, hx13, T.cl, T.n4, by show 3 < 1000; decide, ?_⟩
  rw [show putF (Str.ofString "rules") (V.ref r4) [(Str.ofString "steps", V.ref p), (Str.ofString "turning", V.ref tn), (Str.ofString "keep", V.bl true)] = ([("steps", .ref p), ("turning", .ref tn), ("keep", .bl true), ("rules", .ref r4)] : List (Str × V)) from rfl]
  generalize hG14 : L2.upd (L2.upd G12 r4 (.tup [])) x (.ins CC dx ([("steps", .ref p), ("turning", .ref tn), ("keep", .bl true), ("rules", .ref r4)] : List (Str × V))) = G14
  have k14 : Kp x G8 G14 := fun b o ne e => by rw [← hG14, upd_ne ne]; exact s13 _ _ (s8c _ _ e)
  have hx14 : G14 x = some (.ins CC dx [("steps", .ref p), ("turning", .ref tn), ("keep", .bl true), ("rules", .ref r4)]) := by rw [← hG14, upd_same]
  have hr14 : G14 r4 = some (.tup []) := by rw [← hG14, upd_ne r4x, upd_same]
  refine ⟨_, rfl, x, CC, dx, _, _, rfl, hx14, T.cl, T.n4, rfl, _, rfl, x, CC, dx, _, _, rfl, hx14, T.cl, T.n3, rfl, r4, _, rfl, hr14, fun m5 G15 nm5 s15 hm5 => ⟨_, rfl, x, CC, dx, _, rfl, s15 _ _ hx14, T.cl, T.n5, by show 4 < 1000; decide, ?_⟩⟩
  rw [show putF (Str.ofString "meetings") (V.ref m5) [(Str.ofString "steps", V.ref p), (Str.ofString "turning", V.ref tn), (Str.ofString "keep", V.bl true), (Str.ofString "rules", V.ref r4)] = ([("steps", .ref p), ("turning", .ref tn), ("keep", .bl true), ("rules", .ref r4), ("meetings", .ref m5)] : List (Str × V)) from rfl]
  generalize hG16 : L2.upd G15 x (.ins CC dx ([("steps", .ref p), ("turning", .ref tn), ("keep", .bl true), ("rules", .ref r4), ("meetings", .ref m5)] : List (Str × V))) = G16
  have k16 : Kp x G14 G16 := fun b o ne e => by rw [← hG16, upd_ne ne]; exact s15 _ _ e
  have hx16 : G16 x = some (.ins CC dx [("steps", .ref p), ("turning", .ref tn), ("keep", .bl true), ("rules", .ref r4), ("meetings", .ref m5)]) := by rw [← hG16, upd_same]
  have hr16 := k16 _ _ r4x hr14
  refine ⟨_, rfl, x, CC, dx, _, _, rfl, hx16, T.cl, T.n4, rfl, r4, rfl, hr16, fun b6 G17 nb6 s17 hb6 => ⟨_, rfl, x, CC, dx, _, rfl, s17 _ _ hx16, T.cl, T.n6, by show 5 < 1000; decide, ?_⟩⟩
  rw [show putF (Str.ofString "begins") (V.ref b6) [(Str.ofString "steps", V.ref p), (Str.ofString "turning", V.ref tn), (Str.ofString "keep", V.bl true), (Str.ofString "rules", V.ref r4), (Str.ofString "meetings", V.ref m5)] = ([("steps", .ref p), ("turning", .ref tn), ("keep", .bl true), ("rules", .ref r4), ("meetings", .ref m5), ("begins", .ref b6)] : List (Str × V)) from rfl]
  generalize hG18 : L2.upd G17 x (.ins CC dx ([("steps", .ref p), ("turning", .ref tn), ("keep", .bl true), ("rules", .ref r4), ("meetings", .ref m5), ("begins", .ref b6)] : List (Str × V))) = G18
  have k18 : Kp x G16 G18 := fun b o ne e => by rw [← hG18, upd_ne ne]; exact s17 _ _ e
  have hx18 : G18 x = some (.ins CC dx [("steps", .ref p), ("turning", .ref tn), ("keep", .bl true), ("rules", .ref r4), ("meetings", .ref m5), ("begins", .ref b6)]) := by rw [← hG18, upd_same]
  have hr18 := k18 _ _ r4x hr16
  refine ⟨_, rfl, x, CC, dx, _, _, rfl, hx18, T.cl, T.n4, rfl, r4, rfl, ⟨_, SqT.of hr18⟩, fun D7 hD7 => ⟨⟨[], SqT.of (Same.new hD7 _ _ hr18), Nat.le_refl _⟩, _, rfl, x, CC, dx, _, rfl, Same.new hD7 _ _ hx18, T.cl, T.n7, by show 6 < 1000; decide, ?_⟩⟩
  rw [show putF (Str.ofString "sided") (V.ref D7) [(Str.ofString "steps", V.ref p), (Str.ofString "turning", V.ref tn), (Str.ofString "keep", V.bl true), (Str.ofString "rules", V.ref r4), (Str.ofString "meetings", V.ref m5), (Str.ofString "begins", V.ref b6)] = ([("steps", .ref p), ("turning", .ref tn), ("keep", .bl true), ("rules", .ref r4), ("meetings", .ref m5), ("begins", .ref b6), ("sided", .ref D7)] : List (Str × V)) from rfl]
  have k58 : Kp x G5 G18 := (k57.trans (Kp.same s8)).trans (k14.trans (k16.trans k18))
  have kE : Kp x G5 (L2.upd (L2.upd G18 D7 (.dK [])) x (.ins CC dx ([("steps", .ref p), ("turning", .ref tn), ("keep", .bl true), ("rules", .ref r4), ("meetings", .ref m5), ("begins", .ref b6), ("sided", .ref D7)] : List (Str × V)))) := fun b o ne e => by
    rw [upd_ne ne]
    exact Same.new hD7 _ _ (k58 _ _ ne e)
  exact kQ _ (kk5.trans kE) ⟨dx, p, tn, as, _, _, _, _, upd_same, kE _ _ px hp5, AllAt.kp (kk5.trans kE) hx notStep0 hs, TurnAt.kp ta kE hx5 ⟨rfl, rfl, rfl, rfl⟩⟩
end
end K07
set_option Elab.async false
set_option linter.all false
set_option maxRecDepth 100000
set_option maxHeartbeats 4000000
/-! x | y and the like by an own def, y of the same class or of an own class without such a def. -/
namespace Qop
open PySem PySem.Spec PySem.W PyProof.Rows L2 TL Qh SlX
/-- no class of it has the operator, from the left or from the right -/
def noNumB (K : PySem.W.Frag) (C : Addr) (nm : String) : Bool := (clsIn K C).any fun cd => cd.mro.all fun c => findIn K c (PySem.dunder nm) == some none && findIn K c (dunderR nm) == some none
section
variable {prog : Program} {w : World} {M : Model} {A : Around} {E : Value → Shared → Prop} {s : Shared} {K : PySem.W.Frag} {x C C2 f L : Addr} {h₀ : Heap} {m : Str → Option Value} {ox : Obj} {od : Option Obj} {b : Value}
theorem fills_none {h : Heap} {nm : String} (X : K.In h) (hn : noNumB K C2 nm = true) : Looks M h (fillsNumberSlot (.ref C2) nm) false := by
  obtain ⟨cd, hcd, hm⟩ := any_some hn
  intro A Q E s k q
  unfold fillsNumberSlot
  refine wpAny_bind ((looks_clsIn X hcd).andThen (f := fun cd => pure cd.mro) .now A _ E s k ?_)
  have key : ∀ l : List Value, (l.all fun c => findIn K c (PySem.dunder nm) == some none && findIn K c (dunderR nm) == some none) = true → ∀ (F : Value → Sem Bool),
      (∀ c, findIn K c (PySem.dunder nm) = some none → findIn K c (dunderR nm) = some none → ∀ Q : Bool → Shared → Prop, Q false s → wpAny M A (F c) Q E s) → wpAny M A (l.anyM F) Q E s := by
    intro l
    induction l with
    | nil =>
      intro _ F _
      rw [List.anyM_nil]
      exact wpAny_pure q
    | cons c r ih =>
      intro hl F hF
      rw [List.all_cons, Bool.and_eq_true, Bool.and_eq_true] at hl
      rw [List.anyM_cons]
      refine wpAny_bind (hF c (beq_iff_eq.mp hl.1.1) (beq_iff_eq.mp hl.1.2) _ ?_)
      rw [if_neg Bool.false_ne_true]
      exact ih hl.2 F hF
  refine key cd.mro hm _ fun c h1 h2 Q hq => ?_
  have L1 := looks_findIn (M := M) X h1
  have L2 := looks_findIn (M := M) X h2
  cases c with
  | type n =>
    dsimp only
    refine wpAny_bind (L1 A _ E s k ?_)
    refine wpAny_bind (L2 A _ E s k ?_)
    exact wpAny_pure hq
  | _ =>
    dsimp only
    rw [List.anyM_cons]
    refine wpAny_bind (wpAny_bind (L1 A _ E s k ?_))
    dsimp only
    refine wpAny_pure ?_
    rw [if_neg Bool.false_ne_true, List.anyM_cons]
    refine wpAny_bind (wpAny_bind (L2 A _ E s k ?_))
    dsimp only
    refine wpAny_pure ?_
    rw [if_neg Bool.false_ne_true, List.anyM_nil]
    exact wpAny_pure hq
theorem binop_two {op : Operator} {Q : Value → Shared → Prop} (F : Fr h₀ L s.heap m) (X₀ : K.In h₀) (I : InstAt s.heap x ox C od) (hb : Looks (model prog w) s.heap (typeOf b) (.ref C2)) (ne : C2 ≠ C) (hc : selfFirst K C = true)
    (hs : findIn K (.ref C) (PySem.dunder op.info.2) = some (some (.ref f))) (hf : isFn K (.ref f) = true) (hno : noNumB K C2 op.info.2 = true)
    (h : wpAny (model prog w) A (call (.ref f) [.ref x, b]) (PySem.W.CmpBack Q) E s) : wpAny (model prog w) A (binaryOp op (.ref x) b) Q E s := by
  have X := X₀.keeps F.keep
  obtain ⟨cd, rest, hcd, hm⟩ := ksp_first hc
  rcases hi : op.info with ⟨sym, nm'⟩
  rw [hi] at hs hno
  dsimp only at hs hno
  have one := ksp_try X I hs hf h
  obtain ⟨hh, g, d, tt, os⟩ := s
  have L1 : Looks (model prog w) hh (typeOf (.ref x)) (.ref C) := I.type
  have L2 : Looks (model prog w) hh (typeOf b) (.ref C2) := hb
  have L3 : Looks (model prog w) hh (fillsNumberSlot (.ref C) nm') true := fills_K X hcd hm hs
  have L4 : Looks (model prog w) hh (fillsNumberSlot (.ref C2) nm') false := fills_none X hno
  have hne : (Value.ref C == Value.ref C2) = false := Bool.eq_false_iff.mpr fun q => ne (by cases beq_iff_eq.mp q; rfl)
  simp only [binaryOp, hi]
  refine wpAny_holding (wpAny_bind ?_)
  unfold binaryOp1
  refine wpAny_bind (L1.at (wpAny_bind (L2.at (wpAny_bind (L3.at ?_)))))
  simp only [hne, Bool.false_eq_true, if_false]
  ksp_lk
  refine wpAny_mono one (fun r s' hr' => ?_) fun _ _ e => e
  obtain ⟨v, rfl, hq⟩ := hr'
  ksp_lk
  exact hq
end
section
variable {X : Cx} {CX : CXT} {C g : Addr} {n : Nat} {sp : Sp} {E : XK} {op : Operator}
/-- x op y by an own def of the class at C -/
def rOwnBin (K : PySem.W.Frag) (C : Addr) (nm : String) (sp : Sp) (E : XK) : R2 := fun x y H Q => ∃ (a dx : Addr) (fs : List (Str × V)) (C2 : Addr), x = .ref a ∧ H a = some (.ins C dx fs) ∧ TyX K H y (.ref C2) ∧ (C2 = C ∨ (C2 ≠ C ∧ noNumB K C2 nm = true)) ∧
  sp [x, y] H (fun v H' => (∃ c, v = .ref c) ∧ Q v H') E
theorem op_ownBin (hc : selfFirst X.K C = true) (hs : findIn X.K (.ref C) (PySem.dunder op.info.2) = some (some (.ref g))) (hf : isFn X.K (.ref g) = true) (F : FnR X.prog X.w X.K X.mg X.base CX n g sp) (hr : Room n X.A) (hx : Passes CX X E) :
    OpR X (binaryOp op) (rOwnBin X.K C op.info.2 sp E) := by
  intro pins s σ H x y v u Q I rx ry h
  obtain ⟨a, dx, fs, C2, rfl, ha, ty, hC, q⟩ := h
  cases (show v = Value.ref a from rx)
  obtain ⟨mA, J, _⟩ := ins_get I.hok ha
  obtain ⟨od, J, _⟩ := J.look
  obtain ⟨Pk, Z, hP, _⟩ := kit_of I ry ty
  obtain ⟨m, hF⟩ := I.fr
  have run : wpAny (model X.prog X.w) X.A (call (.ref g) [.ref a, u]) (PySem.W.CmpBack (EP X pins σ Q)) X.xe s := by
    refine wpAny_mono (wpAny_call (run_fnR (us := [.ref a, u]) (vs := [.ref a, y]) F hr hx I (.cons rfl (.cons ry .nil)) q)) (fun w s' z => ?_) fun _ _ x => x
    obtain ⟨z', H', I', rz, ⟨c, rfl⟩, qz⟩ := z
    cases (show w = Value.ref c from rz)
    exact ⟨.ref c, H', I', rfl, qz⟩
  rcases hC with rfl | ⟨ne, hno⟩
  · exact binop_K hF I.ok.mod.kin J (Z.ty _ _ I.kIn hP) hc hs hf run
  · exact binop_two hF I.ok.mod.kin J (Z.ty _ _ I.kIn hP) ne hc hs hf hno run
/-- len(x) by an own __len__ -/
def rLenOwn (C : Addr) (sp : Sp) (E : XK) : List V → Hp → VK → Prop := fun xs H Q => ∃ (a dx : Addr) (fs : List (Str × V)), xs = [.ref a] ∧ H a = some (.ins C dx fs) ∧ sp [.ref a] H (fun v H' => ∃ n : Nat, v = .int (n : Int) ∧ n ≤ 1000000 ∧ Q (.int (n : Int)) H') E
theorem call_lenOwn (hs : PySem.W.findIn X.K (.ref C) "__len__" = some (some (.ref g))) (hf : PySem.W.isFn X.K (.ref g) = true) (F : FnR X.prog X.w X.K X.mg X.base CX n g sp) (hr : Room (n + 1) X.A) (hx : Passes CX X E) : CallR X (.builtin "len") (rLenOwn C sp E) := by
  intro pins s σ H xs us Q I r h
  obtain ⟨a, dx, fs, rfl, ha, q⟩ := h
  obtain ⟨u, rfl, ru⟩ := vals1 r
  cases (show u = Value.ref a from ru)
  obtain ⟨mA, J, _⟩ := ins_get I.hok ha
  obtain ⟨od, J, _⟩ := J.look
  obtain ⟨m, hF⟩ := I.fr
  refine PySem.W.len_K hF I.ok.mod.kin J hs hf ?_
  refine wpAny_mono (wpAny_call (run_at (us := [.ref a]) (ws := [.ref a]) F hr.in1 I.env0.in1 hx I (.cons rfl .nil) q)) (fun w s' z => ?_) fun _ _ x => x
  obtain ⟨z', H', I', rz, k, rfl, hk, qz⟩ := z
  obtain ⟨t, rfl⟩ := rz
  exact ⟨⟨by omega, by omega⟩, .int (k : Int), H', I'.tok _, ⟨_, rfl⟩, qz⟩
end
end Qop
set_option Elab.async false
set_option linter.all false
set_option maxRecDepth 100000
set_option maxHeartbeats 8000000
namespace K07
open PySem PySem.Spec PyProof.Rows L2 TL Qh Qi Ql ClX Qmk Qmg Qde Qtb Qtd RT
abbrev sEqStop : Stmt := inClass (top 28) 3
abbrev sEqDrop : Stmt := inClass (top 29) 2
abbrev sEqSwap : Stmt := inClass (top 30) 4
abbrev sEqStem : Stmt := inClass (top 31) 4
abbrev sOr : Stmt := inClass (top 78) 8
abbrev sChRes : Stmt := inClass (top 78) 4
abbrev sChLen : Stmt := inClass (top 78) 9
abbrev sChEq : Stmt := inClass (top 78) 10
/-- the same step, at a and at b -/
def SameStop (c : C4) (a b : Addr) (H : Hp) : Prop := ∃ ws, Sp.StepAt c.S H a ws ∧ Sp.StepAt c.S H b ws
def SameDrop (c : C4) (a b : Addr) (H : Hp) : Prop := ∃ ws, Sp.StepAt c.D H a ws ∧ Sp.StepAt c.D H b ws
def SameSwap (c : C4) (a b : Addr) (H : Hp) : Prop := ∃ ps, Sw.SwapAt c.W H a ps ∧ Sw.SwapAt c.W H b ps
def SameStem (c : C4) (a b : Addr) (H : Hp) : Prop := ∃ es kk, Sm.StemAt c.M H a es kk ∧ Sm.StemAt c.M H b es kk
theorem prs_txt {H : Hp} : ∀ ws : List Str, Prs DFlat (ws.map V.str) (ws.map V.str) H
  | [] => Prs.nil
  | x :: ws => Prs.cons ⟨rfl, rfl, beq_self_eq_true x⟩ (prs_txt ws)
theorem dtup_txt {K : PySem.W.Frag} {H : Hp} {A1 A2 : Addr} {ws : List Str} (h1 : H A1 = some (.tup (ws.map V.str))) (h2 : H A2 = some (.tup (ws.map V.str))) : DTup K DFlat (.ref A1) (.ref A2) H :=
  ⟨A1, A2, _, _, rfl, rfl, SqT.of h1, SqT.of h2, prs_txt ws⟩
theorem dtup_pairs {K : PySem.W.Frag} {H : Hp} {A1 A2 : Addr} {ps : List (Str × Str)} (h1 : Sw.TupsAt H A1 ps) (h2 : Sw.TupsAt H A2 ps) : DTup K (DTup K DFlat) (.ref A1) (.ref A2) H := by
  obtain ⟨as, e1, p1⟩ := h1
  obtain ⟨bs, e2, p2⟩ := h2
  refine ⟨A1, A2, _, _, rfl, rfl, SqT.of e1, SqT.of e2, by rw [List.length_map, List.length_map, p1.len, p2.len], fun i x y hx hy => ?_⟩
  obtain ⟨a, ha, rfl⟩ := map_at hx
  obtain ⟨b, hb, rfl⟩ := map_at hy
  obtain ⟨p, hp, ea⟩ := p1.at ha
  obtain ⟨q, hq, eb⟩ := p2.at hb
  rw [hp] at hq
  cases hq
  exact ⟨a, b, _, _, rfl, rfl, SqT.of ea, SqT.of eb, Prs.cons ⟨rfl, rfl, beq_self_eq_true _⟩ (Prs.cons ⟨rfl, rfl, beq_self_eq_true _⟩ Prs.nil)⟩
section
variable {P : Program} {w : World} {K : PySem.W.Frag} {mg : Str → Option Value} {base : Heap}
theorem scEqStop : FnScope ["self", "other"] ["self", "other"] (defScope sEqStop) := ⟨rfl, rfl, rfl, by decide +kernel, rfl, by decide +kernel, by decide +kernel⟩
theorem scEqDrop : FnScope ["self", "other"] ["self", "other"] (defScope sEqDrop) := ⟨rfl, rfl, rfl, by decide +kernel, rfl, by decide +kernel, by decide +kernel⟩
theorem scEqSwap : FnScope ["self", "other"] ["self", "other"] (defScope sEqSwap) := ⟨rfl, rfl, rfl, by decide +kernel, rfl, by decide +kernel, by decide +kernel⟩
theorem scEqStem : FnScope ["self", "other"] ["self", "other"] (defScope sEqStem) := ⟨rfl, rfl, rfl, by decide +kernel, rfl, by decide +kernel, by decide +kernel⟩
theorem ok_eqStop {c : C4} {f : Addr} {fd : FuncData} (F : Fun K "__eq__" "Stop.__eq__" sEqStop f fd) (B : Blt mg) (TS : Sp.StopC K mg c.S) (gD : mg "Drop" = some (.ref c.D)) (IS : Sp.InsW K c.S) (k : Kits K c) : FnOk P w K mg base (L2.CX P w) 3 f fd ["self", "other"] (spEq (SameStop c)) := by
  refine F.okX scEqStop (fun vs G Q E h => ?_) (fun cdv A out t G vs Q E hr h => ?_)
  · obtain ⟨a, b, rfl, _⟩ := h
    rfl
  · obtain ⟨a, b, rfl, ⟨ws, ⟨dx, D1, h1, h2⟩, ⟨dx', D1', i1, i2⟩⟩, kQ⟩ := h
    refine ⟨_, pss_one (ps_ret (pe_and (pe_callB call_isi (by rfl) B.n_isinstance bt_isinstance (pa_cons (pv 1) (pa_cons (pe_glob (v := .ref c.S) rfl TS.g rfl) pa_nil))) (pe_and (pe_not (pe_callB call_isi (by rfl) B.n_isinstance bt_isinstance (pa_cons (pv 1) (pa_cons (pe_glob (v := .ref c.D) rfl gD rfl) pa_nil)))) (pe_one (pe_cmpR (op_eqG (rcG_tup mon_flat eqG_flat) (hr.mono (by decide))) (pe_fld (pv 0) rfl) (pe_fld (pv 1) rfl) (nomark _)))))), ?_⟩
    refine ⟨_, rfl, _, _, _, _, _, rfl, .own c.S, k.iS.ty i1, k.ss, _, rfl, ?_⟩
    refine ⟨_, rfl, _, _, _, _, _, rfl, .own c.D, k.iS.ty i1, k.sd, _, rfl, _, rfl, ?_⟩
    refine ⟨_, rfl, a, c.S, dx, _, _, rfl, h1, IS.cl, IS.n1, rfl, ?_⟩
    refine ⟨_, rfl, b, c.S, dx', _, _, rfl, i1, IS.cl, IS.n1, rfl, ?_⟩
    exact ⟨dtup_txt h2 i2, fun H' e => kQ H' e⟩
theorem ok_eqDrop {c : C4} {f : Addr} {fd : FuncData} (F : Fun K "__eq__" "Drop.__eq__" sEqDrop f fd) (B : Blt mg) (gD : mg "Drop" = some (.ref c.D)) (ID : Sp.InsW K c.D) (k : Kits K c) : FnOk P w K mg base (L2.CX P w) 3 f fd ["self", "other"] (spEq (SameDrop c)) := by
  refine F.okX scEqDrop (fun vs G Q E h => ?_) (fun cdv A out t G vs Q E hr h => ?_)
  · obtain ⟨a, b, rfl, _⟩ := h
    rfl
  · obtain ⟨a, b, rfl, ⟨ws, ⟨dx, D1, h1, h2⟩, ⟨dx', D1', i1, i2⟩⟩, kQ⟩ := h
    refine ⟨_, pss_one (ps_ret (pe_and (pe_callB call_isi (by rfl) B.n_isinstance bt_isinstance (pa_cons (pv 1) (pa_cons (pe_glob (v := .ref c.D) rfl gD rfl) pa_nil))) (pe_one (pe_cmpR (op_eqG (rcG_tup mon_flat eqG_flat) (hr.mono (by decide))) (pe_fld (pv 0) rfl) (pe_fld (pv 1) rfl) (nomark _))))), ?_⟩
    refine ⟨_, rfl, _, _, _, _, _, rfl, .own c.D, k.iD.ty i1, k.dd, _, rfl, ?_⟩
    refine ⟨_, rfl, a, c.D, dx, _, _, rfl, h1, ID.cl, ID.n1, rfl, ?_⟩
    refine ⟨_, rfl, b, c.D, dx', _, _, rfl, i1, ID.cl, ID.n1, rfl, ?_⟩
    exact ⟨dtup_txt h2 i2, fun H' e => kQ H' e⟩
theorem ok_eqSwap {c : C4} {f : Addr} {fd : FuncData} (F : Fun K "__eq__" "Swap.__eq__" sEqSwap f fd) (B : Blt mg) (TW : Sw.SwapC K mg c.W) (k : Kits K c) (ww : PySem.W.kitOne K (.ref c.W) (.ref c.W) = some true) : FnOk P w K mg base (L2.CX P w) 3 f fd ["self", "other"] (spEq (SameSwap c)) := by
  refine F.okX scEqSwap (fun vs G Q E h => ?_) (fun cdv A out t G vs Q E hr h => ?_)
  · obtain ⟨a, b, rfl, _⟩ := h
    rfl
  · obtain ⟨a, b, rfl, ⟨ws, ⟨dx, D1, h1, h2⟩, ⟨dx', D1', i1, i2⟩⟩, kQ⟩ := h
    refine ⟨_, pss_one (ps_ret (pe_and (pe_callB call_isi (by rfl) B.n_isinstance bt_isinstance (pa_cons (pv 1) (pa_cons (pe_glob (v := .ref c.W) rfl TW.g rfl) pa_nil))) (pe_one (pe_cmpR (op_eqG (rcG_tup (mon_tup mon_flat) (eqG_tup mon_flat eqG_flat)) (hr.mono (by decide))) (pe_fld (pv 0) rfl) (pe_fld (pv 1) rfl) (nomark _))))), ?_⟩
    refine ⟨_, rfl, _, _, _, _, _, rfl, .own c.W, k.iW.ty i1, ww, _, rfl, ?_⟩
    refine ⟨_, rfl, a, c.W, dx, _, _, rfl, h1, TW.cl, TW.n1, rfl, ?_⟩
    refine ⟨_, rfl, b, c.W, dx', _, _, rfl, i1, TW.cl, TW.n1, rfl, ?_⟩
    exact ⟨dtup_pairs h2 i2, fun H' e => kQ H' e⟩
theorem ok_eqStem {c : C4} {f : Addr} {fd : FuncData} (F : Fun K "__eq__" "Stem.__eq__" sEqStem f fd) (B : Blt mg) (TM : Sm.StemC K mg c.M) (k : Kits K c) : FnOk P w K mg base (L2.CX P w) 3 f fd ["self", "other"] (spEq (SameStem c)) := by
  refine F.okX scEqStem (fun vs G Q E h => ?_) (fun cdv A out t G vs Q E hr h => ?_)
  · obtain ⟨a, b, rfl, _⟩ := h
    rfl
  · obtain ⟨a, b, rfl, ⟨es, kk, ⟨dx, D1, D2, D3, zs, h1, h2, h3, h4, h5⟩, ⟨dx', D1', D2', D3', zs', i1, i2, i3, i4, i5⟩⟩, kQ⟩ := h
    refine ⟨_, pss_one (ps_ret (pe_and (pe_callB call_isi (by rfl) B.n_isinstance bt_isinstance (pa_cons (pv 1) (pa_cons (pe_glob (v := .ref c.M) rfl TM.g rfl) pa_nil))) (pe_and (pe_cmpR (op_eqG (rcG_tup mon_flat eqG_flat) (hr.mono (by decide))) (pe_fld (pv 0) rfl) (pe_fld (pv 1) rfl) (nomark _)) (pe_one (pe_cmpR (op_eqG (rcG_tup mon_flat eqG_flat) (hr.mono (by decide))) (pe_fld (pv 0) rfl) (pe_fld (pv 1) rfl) (nomark _)))))), ?_⟩
    refine ⟨_, rfl, _, _, _, _, _, rfl, .own c.M, k.iM.ty i1, k.mm, _, rfl, ?_⟩
    refine ⟨_, rfl, a, c.M, dx, _, _, rfl, h1, TM.cl, TM.n1, rfl, ?_⟩
    refine ⟨_, rfl, b, c.M, dx', _, _, rfl, i1, TM.cl, TM.n1, rfl, ?_⟩
    refine ⟨dtup_txt h2 i2, fun H' e => ⟨_, rfl, ?_⟩⟩
    refine ⟨_, rfl, a, c.M, dx, _, _, rfl, e _ _ h1, TM.cl, TM.n2, rfl, ?_⟩
    refine ⟨_, rfl, b, c.M, dx', _, _, rfl, e _ _ i1, TM.cl, TM.n2, rfl, ?_⟩
    exact ⟨dtup_txt (e _ _ h3) (e _ _ i3), fun H2 e2 => kQ H2 (e.trans e2)⟩
end
end K07
set_option Elab.async false
set_option linter.all false
set_option maxRecDepth 100000
set_option maxHeartbeats 8000000
namespace K07
open PySem PySem.Spec PyProof.Rows L2 TL Qh Qi Ql ClX Qmk Qmg Qde Qtb Qtd RT
/-- the class at C has an own == that promises R -/
def EqM (P : Program) (w : World) (K : PySem.W.Frag) (mg : Str → Option Value) (base : Heap) (n : Nat) (C : Addr) (R : Addr → Addr → Hp → Prop) : Prop := ∃ f fd ps, PySem.W.findIn K (.ref C) "__eq__" = some (some (.ref f)) ∧ PySem.W.isFn K (.ref f) = true ∧ FnOk P w K mg base (L2.CX P w) n f fd ps (spEq R) ∧ Binds K fd ps []
structure EqS (P : Program) (w : World) (K : PySem.W.Frag) (mg : Str → Option Value) (base : Heap) (c : C4) : Prop where
  s : EqM P w K mg base 3 c.S (SameStop c)
  d : EqM P w K mg base 3 c.D (SameDrop c)
  sw : EqM P w K mg base 3 c.W (SameSwap c)
  st : EqM P w K mg base 3 c.M (SameStem c)
def D4 (c : C4) : Eqv := fun x y H => DIns c.S (SameStop c) x y H ∨ (DIns c.D (SameDrop c) x y H ∨ (DIns c.W (SameSwap c) x y H ∨ DIns c.M (SameStem c) x y H))
theorem EqM.eqG {X : Cx} {n : Nat} {C : Addr} {R : Addr → Addr → Hp → Prop} (h : EqM X.prog X.w X.K X.mg X.base n C R) : EqG X n (DIns C R) := by
  obtain ⟨f, fd, ps, h1, h2, F, hb⟩ := h
  exact eqG_ins F h1 h2 hb passL
theorem EqS.eqG {X : Cx} {c : C4} (h : EqS X.prog X.w X.K X.mg X.base c) : EqG X 3 (D4 c) := h.s.eqG.or (h.d.eqG.or (h.sw.eqG.or h.st.eqG))
theorem mon_d4 (c : C4) : Mon (D4 c) := (mon_ins fun a b H H' e ⟨ws, h1, h2⟩ => ⟨ws, Sp.StepAt.same h1 e, Sp.StepAt.same h2 e⟩).or ((mon_ins fun a b H H' e ⟨ws, h1, h2⟩ => ⟨ws, Sp.StepAt.same h1 e, Sp.StepAt.same h2 e⟩).or
  ((mon_ins fun a b H H' e ⟨ws, h1, h2⟩ => ⟨ws, Sw.SwapAt.same h1 e, Sw.SwapAt.same h2 e⟩).or (mon_ins fun a b H H' e ⟨es, kk, h1, h2⟩ => ⟨es, kk, Sm.StemAt.same h1 e, Sm.StemAt.same h2 e⟩)))
theorem d4_of {c : C4} {H : Hp} {a b : Addr} {s : WS} (h1 : s.at c H a) (h2 : s.at c H b) : D4 c (.ref a) (.ref b) H := by
  obtain ⟨dx, fs, i1, _⟩ := WS.ins h1
  obtain ⟨dy, gs, i2, _⟩ := WS.ins h2
  cases s with
  | stop ws => exact .inl ⟨a, b, dx, dy, fs, gs, rfl, rfl, i1, i2, ws, h1, h2⟩
  | drop ws => exact .inr (.inl ⟨a, b, dx, dy, fs, gs, rfl, rfl, i1, i2, ws, h1, h2⟩)
  | swap ps => exact .inr (.inr (.inl ⟨a, b, dx, dy, fs, gs, rfl, rfl, i1, i2, ps, h1, h2⟩))
  | stem es kk => exact .inr (.inr (.inr ⟨a, b, dx, dy, fs, gs, rfl, rfl, i1, i2, es, kk, h1, h2⟩))
theorem prs_steps {c : C4} {H : Hp} : ∀ {as bs : List Addr} {ss : List WS}, AllAt c H as ss → AllAt c H bs ss → Prs (D4 c) (as.map V.ref) (bs.map V.ref) H
  | [], [], [], _, _ => Prs.nil
  | a :: as, b :: bs, s :: ss, h1, h2 => Prs.cons (d4_of h1.1 h2.1) (prs_steps h1.2 h2.2)
  | [], _ :: _, [], _, h => h.elim
  | [], _, _ :: _, h, _ => h.elim
  | _ :: _, _, [], h, _ => h.elim
  | _ :: _, [], _ :: _, _, h => h.elim
def SameChain (c : C4) (CC CT : Addr) (a b : Addr) (H : Hp) : Prop := ∃ ss, ChainAt c CC CT H a ss ∧ ChainAt c CC CT H b ss
theorem ChainAt.same {c : C4} {CC CT x : Addr} {G G' : Hp} {ss : List WS} (h : ChainAt c CC CT G x ss) (s : Same G G') : ChainAt c CC CT G' x ss := by
  obtain ⟨dx, S, T, as, v4, v5, v6, v7, h1, h2, h3, h4⟩ := h
  exact ⟨dx, S, T, as, v4, v5, v6, v7, s _ _ h1, s _ _ h2, h3.same s, h4.same s⟩
/-- isinstance(.., Chain) -/
structure KitC (K : PySem.W.Frag) (c : C4) (CC : Addr) : Prop where
  i : InsT K CC
  cc : PySem.W.kitOne K (.ref CC) (.ref CC) = some true
  sc : PySem.W.kitOne K (.ref c.S) (.ref CC) = some false
  dc : PySem.W.kitOne K (.ref c.D) (.ref CC) = some false
  wc : PySem.W.kitOne K (.ref c.W) (.ref CC) = some false
  mc : PySem.W.kitOne K (.ref c.M) (.ref CC) = some false
theorem KitC.isC {K : PySem.W.Frag} {c : C4} {CC : Addr} (k : KitC K c CC) (s : WS) : PySem.W.kitOne K (.ref (s.cls c)) (.ref CC) = some false := by
  cases s with
  | stop ws => exact k.sc
  | drop ws => exact k.dc
  | swap ps => exact k.wc
  | stem es kk => exact k.mc
/-- what a call of Chain's __init__ asks -/
def spChainI (c : C4) (CC CT : Addr) : Sp := fun vs H Q E => ∃ ws rest, vs = ws ++ rest ∧ ws.length = ([("self" : Str)] : List Str).length ∧ rest.length ≤ sizeLine ∧ ∀ p, H p = Option.none → spChainBody c CC CT (ws ++ [V.ref p]) (L2.upd H p (.tup rest)) Q E
theorem chain_want {c : C4} {CC CT : Addr} {H : Hp} {Q : VK} {E : XK} {as : List Addr} {ss : List WS} (hs : AllAt c H as ss) (sh : Shape ss) (few : ss.length ≤ 6) (kQ : ∀ x G', H x = none → Same H G' → ChainAt c CC CT G' x ss → Q (.ref x) G')
    (x dx : Addr) (hx : H x = none) (hdx : H dx = none) (ne : dx ≠ x) : spChainI c CC CT (V.ref x :: as.map V.ref) (L2.upd (L2.upd H dx (.own x)) x (.ins CC dx [])) (fun v H2 => v = .non ∧ Q (.ref x) H2) E := by
  have s1 : Same H (L2.upd (L2.upd H dx (.own x)) x (.ins CC dx [])) := fun b o e => by rw [upd_ne (ne_of_none e hx), upd_ne (ne_of_none e hdx)]; exact e
  have al := hs.len
  refine ⟨[.ref x], as.map V.ref, rfl, rfl, by rw [List.length_map]; exact big_line (by omega), fun p hp => ?_⟩
  have px : p ≠ x := fun e => by
    rw [e, upd_same] at hp
    cases hp
  have s2 := s1.trans (Qh.Same.new (o := .tup (as.map V.ref)) hp)
  refine ⟨x, dx, p, as, ss, rfl, by rw [upd_ne px.symm]; exact upd_same, upd_same, hs.same s2, sh, few, fun G' kp ch => ⟨rfl, kQ x G' hx (fun b o e => kp b o (ne_of_none e hx) (s2 _ _ e)) ch⟩⟩
section
variable {P : Program} {w : World} {K : PySem.W.Frag} {mg : Str → Option Value} {base : Heap}
theorem ok_chainI {c : C4} {CC CT CA fT f : Addr} {fd : FuncData} (F : Fun K "__init__" "Chain.__init__" sChainInit f fd) (B : Blt mg) (TC : ChainC K mg CC) (T : ChainI K CC) (k : Kits K c) (kA : KitA K mg c CA) (gT : mg "Turning" = some (.ref CT)) (MT : Mk K CT fT)
    (F_check : Ok P w K mg base "check_steps" (defArgs sCheck) ["steps"] 1 (spCheck c)) (F_drop : Ok P w K mg base "check_drop" (defArgs sChkDrop) ["steps", "rules"] 1 (spChkDrop c)) (F_sides : Ok P w K mg base "check_sides" (defArgs sChkSides) ["rules"] 1 spChkSides)
    (F_each : Ok P w K mg base "each_once" (defArgs sEach) ["sides"] 1 spEach) (F_meet : Ok P w K mg base "meetings_of" (defArgs sMeet) ["rules", "keep"] 2 spMeet) (F_begins : Ok P w K mg base "begins_of" (defArgs sBegins) ["rules"] 1 spBegins) (FT : FnR P w K mg base (L2.CX P w) 4 fT (spTurn c CT)) :
    FnR P w K mg base (L2.CX P w) 6 f (spChainI c CC CT) := by
  obtain ⟨oc, od, kV, doc, pm, an, cdv, ct, osl, rfl, lk, hcd⟩ := F.ex
  exact StX.fn_star (ps := ["self"]) (pv := "steps") lk hcd scChainInit StX.cxUp (fun us rest hl => match us, rest, hl with
    | [_], [], _ => rfl
    | [_], _ :: _, _ => rfl) fun A out t G vs Q E hr h => body_chain B TC T k kA gT MT F_check F_drop F_sides F_each F_meet F_begins FT cdv A out t G vs Q E hr h
theorem scChEq : FnScope ["self", "other"] ["self", "other"] (defScope sChEq) := ⟨rfl, rfl, rfl, by decide +kernel, rfl, by decide +kernel, by decide +kernel⟩
theorem ok_chEq {c : C4} {CC CT f : Addr} {fd : FuncData} (F : Fun K "__eq__" "Chain.__eq__" sChEq f fd) (B : Blt mg) (TC : ChainC K mg CC) (T : ChainI K CC) (kc : KitC K c CC) (ES : EqS P w K mg base c) : FnOk P w K mg base (L2.CX P w) 5 f fd ["self", "other"] (spEq (SameChain c CC CT)) := by
  refine F.okX scChEq (fun vs G Q E h => ?_) (fun cdv A out t G vs Q E hr h => ?_)
  · obtain ⟨a, b, rfl, _⟩ := h
    rfl
  · obtain ⟨a, b, rfl, ⟨ss, ⟨dx, S1, T1, as, v4, v5, v6, v7, h1, h2, h3, _⟩, ⟨dy, S2, T2, bs, u4, u5, u6, u7, i1, i2, i3, _⟩⟩, kQ⟩ := h
    refine ⟨_, pss_one (ps_ret (pe_and (pe_callB call_isi (by rfl) B.n_isinstance bt_isinstance (pa_cons (pv 1) (pa_cons (pe_glob (v := .ref CC) rfl TC.g rfl) pa_nil))) (pe_one (pe_cmpR (op_eqG (rcG_tup (mon_d4 c) (EqS.eqG (c := c) ES)) (hr.mono (by decide))) (pe_fld (pv 0) rfl) (pe_fld (pv 1) rfl) (nomark _))))), ?_⟩
    refine ⟨_, rfl, _, _, _, _, _, rfl, .own CC, kc.i.ty i1, kc.cc, _, rfl, ?_⟩
    refine ⟨_, rfl, a, CC, dx, _, _, rfl, h1, T.cl, T.n1, rfl, ?_⟩
    refine ⟨_, rfl, b, CC, dy, _, _, rfl, i1, T.cl, T.n1, rfl, ?_⟩
    exact ⟨⟨S1, S2, _, _, rfl, rfl, SqT.of h2, SqT.of i2, prs_steps h3 i3⟩, fun H' e => kQ H' e⟩
theorem scChLen : FnScope ["self"] ["self"] (defScope sChLen) := ⟨rfl, rfl, rfl, by decide +kernel, rfl, by decide +kernel, by decide +kernel⟩
def spChLen (c : C4) (CC CT : Addr) : Sp := fun vs G Q _ => ∃ a ss, vs = [.ref a] ∧ ChainAt c CC CT G a ss ∧ Q (.int (ss.length : Int)) G
theorem ok_chLen {c : C4} {CC CT f : Addr} {fd : FuncData} (F : Fun K "__len__" "Chain.__len__" sChLen f fd) (B : Blt mg) (T : ChainI K CC) : FnOk P w K mg base (L2.CX P w) 1 f fd ["self"] (spChLen c CC CT) := by
  refine F.okX scChLen (fun vs G Q E h => ?_) (fun cdv A out t G vs Q E hr h => ?_)
  · obtain ⟨a, ss, rfl, _⟩ := h
    rfl
  · obtain ⟨a, ss, rfl, ⟨dx, S1, T1, as, v4, v5, v6, v7, h1, h2, h3, _⟩, kQ⟩ := h
    refine ⟨_, pss_one (ps_ret (pe_callB call_len (by rfl) B.n_len bt_len (pa_cons (pe_fld (pv 0) rfl) pa_nil))), ?_⟩
    refine ⟨_, rfl, a, CC, dx, _, _, rfl, h1, T.cl, T.n1, rfl, .ref S1, _, rfl, .inr ⟨_, SqT.of h2, rfl⟩, ?_⟩
    rw [List.length_map, h3.len]
    exact kQ
theorem scChRes : FnScope ["self", "word"] ["self", "word"] (defScope sChRes) := ⟨rfl, rfl, rfl, by decide +kernel, rfl, by decide +kernel, by decide +kernel⟩
def spChRes (c : C4) (CC CT : Addr) : Sp := fun vs G Q _ => ∃ (a : Addr) (ss : List WS) (x : Str), vs = [.ref a, .str x] ∧ ChainAt c CC CT G a ss ∧ (∀ s ∈ ss, Any s) ∧ wordS x = true ∧ x.length ≤ 1000 ∧ ∀ G', Same G G' → Q (resAll ss (.str x)) G'
theorem ok_chRes {c : C4} {CC CT f : Addr} {fd : FuncData} (F : Fun K "result" "Chain.result" sChRes f fd) (T : ChainI K CC) (F_is_word : Ok P w K mg base "is_word" (defArgs sIsWord) ["value"] 2 (spIsWord K)) (HT : HasM P w K mg base 2 CT "result" (spTurnRes c CT)) : FnOk P w K mg base (L2.CX P w) 3 f fd ["self", "word"] (spChRes c CC CT) := by
  refine F.okX scChRes (fun vs G Q E h => ?_) (fun cdv A out t G vs Q E hr h => ?_)
  · obtain ⟨a, ss, x, rfl, _⟩ := h
    rfl
  · obtain ⟨a, ss, x, rfl, ⟨dx, S1, T1, as, v4, v5, v6, v7, h1, h2, h3, h4⟩, any, hw, hx, kQ⟩ := h
    refine ⟨_, (pss_cons (ps_if (pt_not (pt_val (pe_own F_is_word (hr.mono (by decide)) takes0 (pa_cons (pv 1) pa_nil)))) pss_dead pss_nil)
      (pss_one (ps_ret (pe_methD (P := P) (w := w) (K := K) (mg := mg) (base := base) (k := 2) ⟨rfl, rfl, rfl, rfl, rfl⟩ (pe_fld (pv 0) rfl) (hr.mono (by decide)) takes0 (pa_cons (pv 1) pa_nil))))), ?_⟩
    refine ⟨_, rfl, .str x, rfl, .inl ⟨x, rfl, by omega⟩, fun G1 s1 => ⟨_, rfl, ?_⟩⟩
    have e : wordV (.str x) = true := hw
    rw [e]
    refine iteF ?_
    obtain ⟨d, v, TA, TB, b, k1, k2, t1, t2⟩ := h4
    refine ⟨_, rfl, a, CC, dx, _, _, rfl, s1 _ _ h1, T.cl, T.n2, rfl, CT, _, T1, d, _, HT, rfl, s1 _ _ t1, rfl, _, rfl, ?_⟩
    exact ⟨T1, ss, x, rfl, TurnAt.same ⟨d, v, TA, TB, b, k1, k2, t1, t2⟩ s1, any, hx, fun G2 s2 => kQ G2 (s1.trans s2)⟩
theorem scOr : FnScope ["self", "other", "behind", "steps"] ["self", "other"] (defScope sOr) := ⟨rfl, rfl, rfl, by decide +kernel, rfl, by decide +kernel, by decide +kernel⟩
/-- chain | chain, chain | step -/
def spOr (c : C4) (CC CT : Addr) : Sp := fun vs G Q _ => ∃ (a b : Addr) (ss tt : List WS), vs = [.ref a, .ref b] ∧ ChainAt c CC CT G a ss ∧ (ChainAt c CC CT G b tt ∨ ∃ s, tt = [s] ∧ s.at c G b) ∧ Shape (ss ++ tt) ∧ (ss ++ tt).length ≤ 6 ∧
  ∀ x G', G x = none → Same G G' → ChainAt c CC CT G' x (ss ++ tt) → Q (.ref x) G'
theorem AllAt.app {c : C4} {G : Hp} : ∀ {as bs : List Addr} {ss tt : List WS}, AllAt c G as ss → AllAt c G bs tt → AllAt c G (as ++ bs) (ss ++ tt)
  | [], _, [], _, _, h => h
  | _ :: as, _, _ :: ss, _, h1, h2 => ⟨h1.1, AllAt.app (as := as) (ss := ss) h1.2 h2⟩
  | [], _, _ :: _, _, h, _ => h.elim
  | _ :: _, _, [], _, h, _ => h.elim
theorem ok_or {c : C4} {CC CT fC f : Addr} {fd : FuncData} (F : Fun K "__or__" "Chain.__or__" sOr f fd) (B : Blt mg) (TC : ChainC K mg CC) (T : ChainI K CC) (k : Kits K c) (kc : KitC K c CC) (MC : Mk K CC fC) (FC : FnR P w K mg base (L2.CX P w) 6 fC (spChainI c CC CT)) : FnOk P w K mg base (L2.CX P w) 8 f fd ["self", "other"] (spOr c CC CT) := by
  refine F.okX scOr (fun vs G Q E h => ?_) (fun cdv A out t G vs Q E hr h => ?_)
  · obtain ⟨a, b, ss, tt, rfl, _⟩ := h
    rfl
  · obtain ⟨a, b, ss, tt, rfl, ha, hb, sh, few, kQ⟩ := h
    refine ⟨_, (pss_cons (ps_set (i := 2) scOr.nd rfl (by first | exact Or.inl rfl | exact Or.inr rfl) (pe_ifExp (pt_val (pe_callB call_isi (by rfl) B.n_isinstance bt_isinstance (pa_cons (pv 1) (pa_cons (pe_glob (v := .ref CC) rfl TC.g rfl) pa_nil)))) (pe_fld (pv 1) rfl) (pn_tup (pa_cons (pv 1) pa_nil))))
      (pss_cons (ps_set (i := 3) scOr.nd rfl (by first | exact Or.inl rfl | exact Or.inr rfl) (pe_op op_catA (pe_fld (pv 0) rfl) (pv 2)))
      (pss_one (ps_ret (pe_makeS1 MC FC (hr.mono (by decide)) takes0 TC.g (pv 3)))))), ?_⟩
    have tail : ∀ (p2 : Addr) (bs : List Addr) (G1 : Hp), Same G G1 → G1 p2 = some (.tup (bs.map V.ref)) → AllAt c G1 bs tt → ∀ o3, tSeq (tAsg (tOp (rCatA K) (tFld K (tVar 0) "steps") (tVar 2)) (gName 3)) (tRet (tMakeS1 K CC (spChainI c CC CT) (WE fun _ _ _ _ => False) (tVar 3)))
        { nx := fun _ H' => Q .non H', rt := Q } [some (.ref a), some (.ref b), some (.ref p2), o3] G1 := by
      intro p2 bs G1 s1 hp2 hbs o3
      obtain ⟨dx, S1, T1, as, v4, v5, v6, v7, h1, h2, h3, _⟩ := ha.same s1
      have al := h3.len
      have bl := hbs.len
      have lt : (ss ++ tt).length ≤ 6 := few
      rw [List.length_append] at lt
      -- the tuple of both
      have fin : ∀ (q : Addr) (G2 : Hp), Same G1 G2 → G2 q = some (.tup ((as ++ bs).map V.ref)) → tRet (tMakeS1 K CC (spChainI c CC CT) (WE fun _ _ _ _ => False) (tVar 3)) { nx := fun _ H' => Q .non H', rt := Q } [some (.ref a), some (.ref b), some (.ref p2), some (.ref q)] G2 := fun q G2 s2 hq =>
        ⟨_, rfl, q, _, rfl, .inl (SqT.of hq), fun x d hx hd ne => chain_want (AllAt.app (h3.same s2) (hbs.same s2)) sh few (fun y G' ny sy ch => kQ y G' (s1.free (s2.free ny)) (s1.trans (s2.trans sy)) ch) x d hx hd ne⟩
      refine ⟨_, rfl, a, CC, dx, _, _, rfl, h1, T.cl, T.n1, rfl, _, rfl, S1, p2, _, _, rfl, rfl, SqT.of h2, SqT.of hp2, by rw [List.length_map, List.length_map]; exact big_line (by omega), fun e => ?_, fun _ e => ?_, fun _ _ q hq => ?_⟩
      · have e : as = [] := by cases as with
          | nil => rfl
          | cons a r => cases e
        subst e
        exact fin p2 G1 (Same.refl G1) hp2
      · have e : bs = [] := by cases bs with
          | nil => rfl
          | cons a r => cases e
        subst e
        exact fin S1 G1 (Same.refl G1) (by rw [List.append_nil]; exact h2)
      · exact fin q _ (Same.new hq) (by rw [upd_same, List.map_append])
    rcases hb with hb | ⟨s, rfl, hb⟩
    · obtain ⟨dy, S2, T2, bs, u4, u5, u6, u7, i1, i2, i3, _⟩ := id hb
      refine ⟨_, rfl, _, _, _, _, _, rfl, .own CC, kc.i.ty i1, kc.cc, _, rfl, iteT ?_⟩
      refine ⟨_, rfl, b, CC, dy, _, _, rfl, i1, T.cl, T.n1, rfl, ?_⟩
      exact tail S2 bs G (Same.refl G) i2 i3 none
    · refine ⟨_, rfl, _, _, _, _, _, rfl, .own CC, k.ty hb, kc.isC s, _, rfl, iteF ?_⟩
      refine ⟨_, rfl, by show 1 ≤ sizeLine; decide, fun p2 G1 np s1 hp2 => ?_⟩
      exact tail p2 [b] G1 s1 hp2 ⟨WS.at.same hb s1, True.intro⟩ none
end
end K07
set_option Elab.async false
set_option linter.all false
set_option maxRecDepth 100000
set_option maxHeartbeats 8000000
namespace K07
open PySem PySem.Spec PyProof.Rows L2 TL Qh Qi Ql ClX Qmk Qmg Qde Qtb Qtd RT
abbrev sPool : Stmt := top 83
abbrev sSome : Stmt := top 84
abbrev sStep : Stmt := top 85
abbrev sSteps : Stmt := top 86
def poolS : List Str := [Str.ofString "a", Str.ofString "b", Str.ofString "c", Str.ofString "as", Str.ofString "bes", Str.ofString "on", Str.ofString "cs", Str.ofString "x"]
def endS : List Str := [Str.ofString "s", Str.ofString "es", Str.ofString "e", Str.ofString "bes", Str.ofString "n"]
theorem pool_txt : ∀ y ∈ poolS, txt y = true ∧ y.length ≤ 3 ∧ wordS y = true := by
  have h : poolS.all (fun y => txt y && (decide (y.length ≤ 3) && wordS y)) = true := by decide +kernel
  intro y hy
  have := List.all_eq_true.mp h y hy
  obtain ⟨a, b⟩ := Bool.and_eq_true_iff.mp this
  obtain ⟨b, c⟩ := Bool.and_eq_true_iff.mp b
  exact ⟨a, of_decide_eq_true b, c⟩
theorem end_txt : ∀ y ∈ endS, txt y = true ∧ y.length ≤ 3 ∧ 1 ≤ y.length ∧ endingV (.str y) = true := by
  have h : endS.all (fun y => txt y && (decide (y.length ≤ 3) && (decide (1 ≤ y.length) && endingV (.str y)))) = true := by decide +kernel
  intro y hy
  have := List.all_eq_true.mp h y hy
  obtain ⟨a, b⟩ := Bool.and_eq_true_iff.mp this
  obtain ⟨b, c⟩ := Bool.and_eq_true_iff.mp b
  obtain ⟨c, d⟩ := Bool.and_eq_true_iff.mp c
  exact ⟨a, of_decide_eq_true b, of_decide_eq_true c, d⟩
def spPool : Sp := fun vs G Q _ => vs = [] ∧ ∀ q G', G q = none → Same G G' → G' q = some (.lst (poolS.map V.str)) → Q (.ref q) G'
/-- n things out of one row -/
def spSome : Sp := fun vs G Q _ => ∃ (p l : Addr) (c m : Int), vs = [.ref p, .int m] ∧ Pen G p l c ∧ c ≤ 900000 ∧ 1 ≤ m ∧ m ≤ 5 ∧ ∀ (L : Addr) (ws : List Str) G', G L = none → 1 ≤ ws.length → (ws.length : Int) ≤ m → (∀ x ∈ ws, x ∈ poolS) → Kp p G G' → Pen G' p l (c + 10) → G' L = some (.lst (ws.map V.str)) → Q (.ref L) G'
section
variable {P : Program} {w : World} {K : PySem.W.Frag} {mg : Str → Option Value} {base : Heap}
theorem scPool : FnScope [] [] (defScope sPool) := ⟨rfl, rfl, rfl, by decide +kernel, rfl, by decide +kernel, by decide +kernel⟩
theorem ok_pool (D : DefIn K mg "_law_pool" sPool) : Ok P w K mg base "_law_pool" (defArgs sPool) [] 1 spPool := by
  refine D.ok scPool (fun vs G Q E h => ?_) (fun _ _ _ _ _ _ us hl => match us, hl with | [], _ => rfl) (fun f cdv A out t G vs Q E hr h => ?_)
  · obtain ⟨rfl, _⟩ := h
    rfl
  · obtain ⟨rfl, k⟩ := h
    refine ⟨_, (pss_one (ps_ret (pn_lst (pa_cons pe_str (pa_cons pe_str (pa_cons pe_str (pa_cons pe_str (pa_cons pe_str (pa_cons pe_str (pa_cons pe_str (pa_cons pe_str pa_nil))))))))))), ?_⟩
    exact ⟨by show 8 ≤ sizeLine; decide, fun L G1 n1 s1 e1 => k L G1 n1 s1 e1⟩
abbrev someN : List Str := ["_law_pen_here", "_law_most", "_law_k"]
theorem scSome : FnScope someN ["_law_pen_here", "_law_most"] (defScope sSome) := ⟨rfl, rfl, rfl, by decide +kernel, rfl, by decide +kernel, by decide +kernel⟩
theorem ok_some (D : DefIn K mg "_law_some" sSome) (B : Blt mg) (F__law_draw : Ok P w K mg base "_law_draw" (defArgs sDraw) ["_law_pen_here", "_law_many"] 1 spDraw) (F__law_pick : Ok P w K mg base "_law_pick" (defArgs sPick) ["_law_pen_here", "_law_some_here"] 2 (spPick K))
    (F__law_pool : Ok P w K mg base "_law_pool" (defArgs sPool) [] 1 spPool) : Ok P w K mg base "_law_some" (defArgs sSome) ["_law_pen_here", "_law_most"] 3 spSome := by
  refine D.ok scSome (fun vs G Q E h => ?_) (fun _ _ _ _ _ _ us hl => match us, hl with | [_, _], _ => rfl) (fun f cdv A out t G vs Q E hr h => ?_)
  · obtain ⟨p, l, c, m, rfl, _⟩ := h
    rfl
  · obtain ⟨p, l, c, m, rfl, P0, hc, hm1, hm2, k⟩ := h
    refine ⟨_, (pss_one (ps_ret (pe_lc (own := [("_law_k", 2)]) (tt := tYes) rfl scSome.nd (pi_range1 (by rfl) B.n_range (pa_cons (pe_op op_add pe_int (pe_own F__law_draw (hr.mono (by decide)) takes0 (pa_cons (pv 0) (pa_cons (pv 1) pa_nil)))) pa_nil)) (blkOk_by (N := someN) (sc := defScope sSome) (by decide +kernel)) (fun _ _ _ _ _ => pg_name (i := 2) scSome.nd rfl (by first | exact Or.inl rfl | exact Or.inr rfl)) (fun _ _ _ _ _ => pts_nil) (fun _ _ _ _ _ => (pe_own F__law_pick (hr.mono (by decide)) takes0 (pa_cons (pv 0) (pa_cons (pe_own0 F__law_pool (hr.mono (by decide))) pa_nil))))))), ?_⟩
    refine ⟨_, rfl, _, rfl, p, l, c, m, rfl, P0, by omega, by omega, by omega, fun d G1 d0 d1 kp1 P1 => ?_⟩
    refine ⟨_, _, rfl, rfl, 1 + d, rfl, by omega, by omega, fun L hL => ?_⟩
    rw [show (1 + d).toNat = d.toNat + 1 by omega]
    refine lc_range (fun i G' => Kp p G1 G' ∧ Pen G' p l (c + 1 + i) ∧ ∃ ws : List Str, G' L = some (.lst (ws.map V.str)) ∧ ws.length = i ∧ ∀ x ∈ ws, x ∈ poolS) ⟨Kp.new hL, (P1.new hL).mono (by omega), [], upd_same, rfl, fun x h => nomatch h⟩ ?_ ?_
    · rintro i G2 hi ⟨kp2, P2, ws, hl, len, mem⟩
      refine ⟨rfl, _, rfl, rfl, fun q G3 nq sq hq => ⟨p, l, q, _, _, rfl, P2.same sq, by omega, P2.ne nq, SqL.of hq, by show 0 < 8; decide, by show 8 ≤ 1000000; decide, fun v G4 hv kp4 P4 => ?_⟩⟩
      obtain ⟨y, hy, rfl⟩ := List.mem_map.mp hv
      have hl4 := kp4 L _ (P1.ne hL) (sq _ _ hl)
      refine ⟨_, hl4, by rw [List.length_map, len]; exact big_line' (by omega), ((kp2.trans (Kp.same sq)).trans kp4).fresh hL, (P4.upd (P1.ne hL) (P1.nel hL)).mono (by omega), ws ++ [y], by rw [upd_same, List.map_append]; rfl, by rw [List.length_append, len]; rfl, fun x hx => ?_⟩
      rcases List.mem_append.mp hx with hx | hx
      · exact mem x hx
      · rw [List.mem_singleton.mp hx]
        exact hy
    · rintro G2 ⟨kp2, P2, ws, hl, len, mem⟩
      exact k L ws G2 (kp1.free (P1.ne hL) hL) (by omega) (by omega) mem (kp1.trans kp2) (P2.mono (by omega)) hl
end
/-- a drawn step -/
inductive LP where
  | stop (ws : List Str)
  | drop (ws : List Str)
  | swap (ps : List (Str × Str))
  | stem (es kk : List Str)
def LP.isM : LP → Bool
  | .stem _ _ => true
  | _ => false
def LP.sort : LP → Str
  | .stop _ => Str.ofString "stop"
  | .drop _ => Str.ofString "drop"
  | .swap _ => Str.ofString "swap"
  | .stem _ _ => Str.ofString "stem"
def LP.rowAt (G : Hp) (r l : Addr) : LP → Prop
  | .stop ws => G r = some (.lst (ws.map V.str)) ∧ G l = some (.lst [])
  | .drop ws => G r = some (.lst (ws.map V.str)) ∧ G l = some (.lst [])
  | .swap ps => (∃ as, G r = some (.lst (as.map V.ref)) ∧ Sw.PairsAt G as ps) ∧ G l = some (.lst [])
  | .stem es kk => G r = some (.lst (es.map V.str)) ∧ G l = some (.lst (kk.map V.str))
def LP.at (G : Hp) (a : Addr) (lp : LP) : Prop := ∃ r l, G a = some (.tup [.str lp.sort, .ref r, .ref l]) ∧ lp.rowAt G r l
/-- with rows that are such -/
def LP.atF (F : Addr → Prop) (G : Hp) (a : Addr) (lp : LP) : Prop := ∃ r l, F r ∧ F l ∧ G a = some (.tup [.str lp.sort, .ref r, .ref l]) ∧ lp.rowAt G r l
theorem LP.atF.at {F : Addr → Prop} {G : Hp} {a : Addr} {lp : LP} (h : lp.atF F G a) : lp.at G a := by
  obtain ⟨r, l, _, _, h1, h2⟩ := h
  exact ⟨r, l, h1, h2⟩
def LP.good : LP → Prop
  | .stop ws => 1 ≤ ws.length ∧ ws.length ≤ 2 ∧ ∀ x ∈ ws, x ∈ poolS
  | .drop ws => 1 ≤ ws.length ∧ ws.length ≤ 2 ∧ ∀ x ∈ ws, x ∈ poolS
  | .swap ps => 1 ≤ ps.length ∧ ps.length ≤ 2 ∧ (∀ q ∈ ps, q.1 ∈ poolS ∧ q.2 ∈ poolS) ∧ (ps.map (·.1)).Nodup
  | .stem es kk => 1 ≤ es.length ∧ es.length ≤ 3 ∧ (∀ x ∈ es, x ∈ endS) ∧ kk.length ≤ 1 ∧ ∀ x ∈ kk, x ∈ poolS
/-- everything but p (a list of another sort) is as it was -/
theorem LP.at.kp {G G' : Hp} {p a : Addr} {lp : LP} (h : lp.at G a) (k : Kp p G G') (np : ∀ r l, G a = some (.tup [.str lp.sort, .ref r, .ref l]) → a ≠ p ∧ r ≠ p ∧ l ≠ p) (nt : ∀ t xs, G t = some (.tup xs) → t ≠ p) : lp.at G' a := by
  obtain ⟨r, l, h1, h2⟩ := h
  obtain ⟨n1, n2, n3⟩ := np r l h1
  refine ⟨r, l, k _ _ n1 h1, ?_⟩
  cases lp with
  | stop ws => exact ⟨k _ _ n2 h2.1, k _ _ n3 h2.2⟩
  | drop ws => exact ⟨k _ _ n2 h2.1, k _ _ n3 h2.2⟩
  | swap ps =>
    obtain ⟨⟨as, e1, e2⟩, e3⟩ := h2
    exact ⟨⟨as, k _ _ n2 e1, e2.same fun b t e => k _ _ (nt b t e) e⟩, k _ _ n3 e3⟩
  | stem es kk => exact ⟨k _ _ n2 h2.1, k _ _ n3 h2.2⟩
theorem LP.at.same {G G' : Hp} {a : Addr} {lp : LP} (h : lp.at G a) (k : Same G G') : lp.at G' a := by
  obtain ⟨r, l, h1, h2⟩ := h
  refine ⟨r, l, k _ _ h1, ?_⟩
  cases lp with
  | stop ws => exact ⟨k _ _ h2.1, k _ _ h2.2⟩
  | drop ws => exact ⟨k _ _ h2.1, k _ _ h2.2⟩
  | swap ps =>
    obtain ⟨⟨as, e1, e2⟩, e3⟩ := h2
    exact ⟨⟨as, k _ _ e1, e2.same fun b t e => k _ _ e⟩, k _ _ e3⟩
  | stem es kk => exact ⟨k _ _ h2.1, k _ _ h2.2⟩
theorem pen_tups {G G' : Hp} {p l : Addr} {c : Int} (P : Pen G p l c) (k : Kp p G G') : ∀ t xs, G t = some (.tup xs) → G' t = some (.tup xs) := fun t xs e => k t _ (fun z => by
  obtain ⟨_, _, _, h, _⟩ := P
  rw [z, h] at e
  cases e) e
theorem PairsAt.snoc {G : Hp} {t : Addr} {p : Str × Str} : ∀ {as : List Addr} {ps : List (Str × Str)}, Sw.PairsAt G as ps → G t = some (.tup [.str p.1, .str p.2]) → Sw.PairsAt G (as ++ [t]) (ps ++ [p])
  | _, _, .nil, h => .cons h .nil
  | _, _, .cons h0 r, h => .cons h0 (PairsAt.snoc r h)
def spStep : Sp := fun vs G Q _ => ∃ (p l : Addr) (c : Int) (hs : Bool), vs = [.ref p, .bl hs] ∧ Pen G p l c ∧ c ≤ 850000 ∧ ∀ (a : Addr) (lp : LP) (G' : Hp), G a = none → lp.atF (fun b => G b = none) G' a → lp.good → (hs = true → lp.isM = false) → Kp p G G' → Pen G' p l (c + 30) → Q (.ref a) G'
abbrev stepN : List Str := ["_law_pen_here", "_law_has_stem", "_law_sort", "_law_ends", "_law_k", "_law_one"]
section
variable {P : Program} {w : World} {K : PySem.W.Frag} {mg : Str → Option Value} {base : Heap}
theorem scStep : FnScope stepN ["_law_pen_here", "_law_has_stem"] (defScope sStep) := ⟨rfl, rfl, rfl, by decide +kernel, rfl, by decide +kernel, by decide +kernel⟩
theorem ok_step (D : DefIn K mg "_law_step" sStep) (B : Blt mg) (F__law_draw : Ok P w K mg base "_law_draw" (defArgs sDraw) ["_law_pen_here", "_law_many"] 1 spDraw) (F__law_pick : Ok P w K mg base "_law_pick" (defArgs sPick) ["_law_pen_here", "_law_some_here"] 2 (spPick K))
    (F__law_pool : Ok P w K mg base "_law_pool" (defArgs sPool) [] 1 spPool) (F__law_some : Ok P w K mg base "_law_some" (defArgs sSome) ["_law_pen_here", "_law_most"] 3 spSome) : Ok P w K mg base "_law_step" (defArgs sStep) ["_law_pen_here", "_law_has_stem"] 4 spStep := by
  refine D.ok scStep (fun vs G Q E h => ?_) (fun _ _ _ _ _ _ us hl => match us, hl with | [_, _], _ => rfl) (fun f cdv A out t G vs Q E hr h => ?_)
  · obtain ⟨p, l, c, hs, rfl, _⟩ := h
    rfl
  · obtain ⟨p, l, c, hs, rfl, P0, hc, k⟩ := h
    refine ⟨_, (pss_cons (ps_set (i := 2) scStep.nd rfl (by first | exact Or.inl rfl | exact Or.inr rfl) (pe_own F__law_pick (hr.mono (by decide)) takes0 (pa_cons (pv 0) (pa_cons (pe_slice sl_list (pn_lst (pa_cons pe_str (pa_cons pe_str (pa_cons pe_str (pa_cons pe_str (pa_cons pe_str pa_nil)))))) po_none (po_some (pe_op op_sub pe_int (pe_op op_mul pe_int (pe_callTy call_int1 (by rfl) B.n_int bt_int (pa_cons (pv 1) pa_nil)))))) pa_nil))))
    (pss_cons (ps_if (pt_cmpR op_eq (pv 2) pe_str (nomark _)) (pss_cons (ps_setLc (i := 3) (own := [("_law_k", 4)]) (tt := tYes) rfl scStep.nd rfl rfl (sw_true rfl rfl rfl (by decide +kernel)) (pi_range1 (by rfl) B.n_range (pa_cons (pe_op op_add pe_int (pe_own F__law_draw (hr.mono (by decide)) takes0 (pa_cons (pv 0) (pa_cons pe_int pa_nil)))) pa_nil)) (blkOk_by (N := stepN) (sc := defScope sStep) (by decide +kernel)) (fun _ _ _ _ _ => pg_name (i := 4) scStep.nd rfl (by first | exact Or.inl rfl | exact Or.inr rfl)) (fun _ _ _ _ _ => pts_nil) (fun _ _ _ _ _ => (pe_own F__law_pick (hr.mono (by decide)) takes0 (pa_cons (pv 0) (pa_cons (pn_lst (pa_cons pe_str (pa_cons pe_str (pa_cons pe_str (pa_cons pe_str (pa_cons pe_str pa_nil)))))) pa_nil)))))
      (pss_one (ps_ret (pn_tup (pa_cons (pv 2) (pa_cons (pv 3) (pa_cons (pe_lc (own := [("_law_k", 4)]) (tt := tYes) rfl scStep.nd (pi_range1 (by rfl) B.n_range (pa_cons (pe_own F__law_draw (hr.mono (by decide)) takes0 (pa_cons (pv 0) (pa_cons pe_int pa_nil))) pa_nil)) (blkOk_by (N := stepN) (sc := defScope sStep) (by decide +kernel)) (fun _ _ _ _ _ => pg_name (i := 4) scStep.nd rfl (by first | exact Or.inl rfl | exact Or.inr rfl)) (fun _ _ _ _ _ => pts_nil) (fun _ _ _ _ _ => (pe_own F__law_pick (hr.mono (by decide)) takes0 (pa_cons (pv 0) (pa_cons (pe_own0 F__law_pool (hr.mono (by decide))) pa_nil))))) pa_nil))))))) pss_nil)
    (pss_cons (ps_if (pt_cmpR op_eq (pv 2) pe_str (nomark _)) (pss_one (ps_ret (pn_tup (pa_cons (pv 2) (pa_cons (pe_lc (own := [("_law_one", 5)]) (tt := tYes) rfl scStep.nd (pi_list (pe_callB (Qs.call_sortX rfl) (by rfl) B.n_sorted bt_sorted (pa_cons (pe_callTy (Qs.call_setX rfl) (by rfl) B.n_set bt_set (pa_cons (pe_own F__law_some (hr.mono (by decide)) takes0 (pa_cons (pv 0) (pa_cons pe_int pa_nil))) pa_nil)) pa_nil))) (blkOk_by (N := stepN) (sc := defScope sStep) (by decide +kernel)) (fun _ _ _ _ _ => pg_name (i := 5) scStep.nd rfl (by first | exact Or.inl rfl | exact Or.inr rfl)) (fun _ _ _ _ _ => pts_nil) (fun _ _ _ _ _ => (pn_tup (pa_cons (pv 5) (pa_cons (pe_own F__law_pick (hr.mono (by decide)) takes0 (pa_cons (pv 0) (pa_cons (pe_own0 F__law_pool (hr.mono (by decide))) pa_nil))) pa_nil))))) (pa_cons (pn_lst pa_nil) pa_nil)))))) pss_nil)
    (pss_one (ps_ret (pn_tup (pa_cons (pv 2) (pa_cons (pe_own F__law_some (hr.mono (by decide)) takes0 (pa_cons (pv 0) (pa_cons pe_int pa_nil))) (pa_cons (pn_lst pa_nil) pa_nil))))))))), ?_⟩
    refine ⟨_, rfl, by show 5 ≤ sizeLine; decide, fun S5 G1 n1 s1 e1 => ?_⟩
    have P1 := P0.same s1
    have n5 := P0.ne n1
    have hmul : CMul 2 (if hs = true then 1 else 0) := by
      unfold CMul
      cases hs <;> decide
    refine ⟨_, rfl, .inr ⟨hs, rfl, _, _, rfl, rfl, hmul, _, _, rfl, rfl, _, rfl, S5, _, rfl, SqL.of e1, fun p2 np2 => ?_⟩⟩
    have hcut : cutV [V.str (Str.ofString "stop"), .str (Str.ofString "drop"), .str (Str.ofString "swap"), .str (Str.ofString "stem"), .str (Str.ofString "stem")] none (some (5 - 2 * (if hs = true then 1 else 0))) = (if hs = true then [V.str (Str.ofString "stop"), .str (Str.ofString "drop"), .str (Str.ofString "swap")] else [V.str (Str.ofString "stop"), .str (Str.ofString "drop"), .str (Str.ofString "swap"), .str (Str.ofString "stem"), .str (Str.ofString "stem")]) := by
      cases hs <;> rfl
    have P2 : Pen (L2.upd G1 p2 (.lst (cutV [V.str (Str.ofString "stop"), .str (Str.ofString "drop"), .str (Str.ofString "swap"), .str (Str.ofString "stem"), .str (Str.ofString "stem")] none (some (5 - 2 * (if hs = true then 1 else 0)))))) p l c := P1.new np2
    refine ⟨p, l, p2, c, _, rfl, P2, by omega, P1.ne np2, SqL.of upd_same, ?_, ?_, fun v G2 hv kp2 P3 => ?_⟩
    · rw [hcut]
      cases hs <;> decide
    · rw [hcut]
      cases hs <;> decide
    rw [hcut] at hv
    have kp02 : Kp p G G2 := (Kp.same (s1.trans (Same.new np2))).trans kp2
    -- which sort
    have sort_or : v = .str (Str.ofString "stop") ∨ v = .str (Str.ofString "drop") ∨ v = .str (Str.ofString "swap") ∨ (v = .str (Str.ofString "stem") ∧ hs = false) := by
      cases hs with
      | true =>
        rw [if_pos rfl] at hv
        rcases List.mem_cons.mp hv with h | hv
        · exact .inl h
        rcases List.mem_cons.mp hv with h | hv
        · exact .inr (.inl h)
        exact .inr (.inr (.inl (List.mem_singleton.mp hv)))
      | false =>
        rw [if_neg Bool.false_ne_true] at hv
        rcases List.mem_cons.mp hv with h | hv
        · exact .inl h
        rcases List.mem_cons.mp hv with h | hv
        · exact .inr (.inl h)
        rcases List.mem_cons.mp hv with h | hv
        · exact .inr (.inr (.inl h))
        rcases List.mem_cons.mp hv with h | hv
        · exact .inr (.inr (.inr ⟨h, rfl⟩))
        exact .inr (.inr (.inr ⟨List.mem_singleton.mp hv, rfl⟩))
    have old : ∀ {G' G'' : Hp} {tt : Addr} {c' : Int}, Kp p G G' → Pen G'' p l c' → G' tt = none → G'' tt = none → G tt = none := fun {G' G'' tt c'} kk PP h h2 => kk.free (PP.ne h2) h
    -- stops and drops
    rcases sort_or with rfl | rfl | rfl | ⟨rfl, hh⟩
    · refine ⟨_, rfl, rfl, _, rfl, iteF ?_⟩
      refine ⟨_, rfl, rfl, _, rfl, iteF ?_⟩
      refine ⟨_, rfl, _, rfl, p, l, _, 2, rfl, P3, by omega, by omega, by omega, fun L ws G3 nL len1 len2 mem kp3 P4 hL => ?_⟩
      exact ⟨by show 0 ≤ sizeLine; decide, fun L0 G4 n4 s4 e4 => ⟨by show 3 ≤ sizeLine; decide, fun tt G5 nt s5 ht => k tt (.stop ws) G5 (old (kp02.trans kp3) (P4.same s4) (s4.free nt) nt) ⟨L, L0, kp02.free (P3.ne nL) nL, (kp02.trans kp3).free (P4.ne n4) n4, ht, s5 _ _ (s4 _ _ hL), s5 _ _ e4⟩ ⟨len1, by omega, mem⟩ (fun _ => rfl) ((kp02.trans kp3).trans (Kp.same (s4.trans s5))) (((P4.same s4).same s5).mono (by omega))⟩⟩
    · refine ⟨_, rfl, rfl, _, rfl, iteF ?_⟩
      refine ⟨_, rfl, rfl, _, rfl, iteF ?_⟩
      refine ⟨_, rfl, _, rfl, p, l, _, 2, rfl, P3, by omega, by omega, by omega, fun L ws G3 nL len1 len2 mem kp3 P4 hL => ?_⟩
      exact ⟨by show 0 ≤ sizeLine; decide, fun L0 G4 n4 s4 e4 => ⟨by show 3 ≤ sizeLine; decide, fun tt G5 nt s5 ht => k tt (.drop ws) G5 (old (kp02.trans kp3) (P4.same s4) (s4.free nt) nt) ⟨L, L0, kp02.free (P3.ne nL) nL, (kp02.trans kp3).free (P4.ne n4) n4, ht, s5 _ _ (s4 _ _ hL), s5 _ _ e4⟩ ⟨len1, by omega, mem⟩ (fun _ => rfl) ((kp02.trans kp3).trans (Kp.same (s4.trans s5))) (((P4.same s4).same s5).mono (by omega))⟩⟩
    · refine ⟨_, rfl, rfl, _, rfl, iteF ?_⟩
      refine ⟨_, rfl, rfl, _, rfl, iteT ?_⟩
      refine ⟨_, rfl, _, rfl, p, l, _, 2, rfl, P3, by omega, by omega, by omega, fun L ws G3 nL len1 len2 mem kp3 P4 hL => ?_⟩
      have wl : ws.length ≤ 2 := by omega
      have ml := Qs.met_len ws ws.length
      refine ⟨L, ws, rfl, .inl (SqL.of hL), by unfold scanBound; omega, fun a G4 n4 s4 l4 => ⟨a, _, rfl, l4, by omega, fun ss b G5 pm so n5 s5 l5 => ⟨b, rfl, ⟨_, SqL.of l5⟩, fun D0 hD => ?_⟩⟩⟩
      have P6 := (P4.same s4).same s5
      have kp5 : Kp p G G5 := (kp02.trans kp3).trans (Kp.same (s4.trans s5))
      have bp : b ≠ p := (P4.same s4).ne n5
      have Dp := P6.ne hD
      have Dl := P6.nel hD
      refine lc_it walk_list (fun i G' => Kp p G5 G' ∧ Pen G' p l (c + 1 + 10 + i) ∧ ∃ as ps, G' D0 = some (.lst (as.map V.ref)) ∧ Sw.PairsAt G' as ps ∧ ps.map (·.1) = ss.take i ∧ ∀ q ∈ ps, q.2 ∈ poolS)
        ⟨Kp.new hD, (P6.new hD).mono (by omega), [], [], upd_same, .nil, rfl, fun q h => nomatch h⟩ (fun i G' _ h => SqL.of (h.1 _ _ bp l5)) ?_ ?_
      · rintro i x G6 G7 hi ⟨kp6, P7, as, ps, hD6, pa, pf, pp⟩ ⟨rfl, hx⟩
        obtain ⟨y, hy, rfl⟩ := map_at hx
        rw [List.length_map] at hi
        have sl : ss.length ≤ 2 := by rw [pm.length_eq]; omega
        refine ⟨rfl, _, rfl, _, rfl, rfl, fun q G8 nq sq hq => ⟨p, l, q, _, _, rfl, P7.same sq, by omega, P7.ne nq, SqL.of hq, by show 0 < 8; decide, by show 8 ≤ 1000000; decide, fun v G9 hv kp9 P9 => ⟨by show 2 ≤ sizeLine; decide, fun tt G10 nt s10 ht => ?_⟩⟩⟩
        obtain ⟨z, hz, rfl⟩ := List.mem_map.mp hv
        have tups : ∀ t xs, G7 t = some (.tup xs) → G10 t = some (.tup xs) := fun t xs e => s10 _ _ (pen_tups (P7.same sq) kp9 t xs (sq _ _ e))
        have hD10 : G10 D0 = some (.lst (as.map V.ref)) := s10 _ _ (kp9 _ _ Dp (sq _ _ hD6))
        have al : as.length ≤ 2 := by
          rw [pa.len, ← List.length_map (f := (·.1)), pf, List.length_take]
          omega
        have Dt : tt ≠ D0 := fun z => by
          rw [z] at nt
          rw [kp9 _ _ Dp (sq _ _ hD6)] at nt
          cases nt
        refine ⟨_, hD10, by rw [List.length_map]; exact big_line' (by omega), (((kp6.trans (Kp.same sq)).trans kp9).trans (Kp.same s10)).fresh hD, ((P9.same s10).upd Dp Dl).mono (by omega), as ++ [tt], ps ++ [(y, z)], by rw [upd_same, List.map_append]; rfl, ?_, ?_, fun q hq => ?_⟩
        · refine PairsAt.snoc ((pa.same tups).same fun t xs e => ?_) (by rw [upd_ne Dt]; exact ht)
          rw [upd_ne (fun z => by rw [z, hD10] at e; cases e)]
          exact e
        · rw [List.map_append, pf, take_get hy]
          rfl
        · rcases List.mem_append.mp hq with hq | hq
          · exact pp q hq
          · rw [List.mem_singleton.mp hq]
            exact hz
      · rintro G6 ⟨kp6, P7, as, ps, hD6, pa, pf, pp⟩
        rw [List.length_map, List.take_length] at pf
        have sl : ss.length ≤ 2 := by rw [pm.length_eq]; omega
        have pl : ps.length = ss.length := by rw [← pf, List.length_map]
        refine ⟨by show 0 ≤ sizeLine; decide, fun L0 G8 n8 s8 e8 => ⟨by show 3 ≤ sizeLine; decide, fun tt G9 nt s9 ht => k tt (.swap ps) G9 (old (kp5.trans kp6) (P7.same s8) (s8.free nt) nt) ⟨D0, L0, kp5.free Dp hD, (kp5.trans kp6).free (P7.ne n8) n8, ht, ⟨as, s9 _ _ (s8 _ _ hD6), pa.same fun t xs e => s9 _ _ (s8 _ _ e)⟩, s9 _ _ e8⟩ ⟨?_, by omega, fun q hq => ⟨?_, pp q hq⟩, ?_⟩ (fun _ => rfl) ((kp5.trans kp6).trans (Kp.same (s8.trans s9))) (((P7.same s8).same s9).mono (by rw [List.length_map]; omega))⟩⟩
        · rw [pl]
          cases ss with
          | cons a r => exact Nat.succ_le_succ (Nat.zero_le _)
          | nil =>
            cases ws with
            | nil => exact len1
            | cons x r =>
              have := pm.mem_iff.mpr ((Qs.met_mem (x :: r) x).mpr List.mem_cons_self)
              cases this
        · have : q.1 ∈ ss := by rw [← pf]; exact List.mem_map_of_mem hq
          exact mem _ ((Qs.met_mem ws q.1).mp (pm.mem_iff.mp this))
        · rw [pf]
          exact (List.Perm.nodup_iff pm).mpr (Qs.met_nodup ws)
    · refine ⟨_, rfl, rfl, _, rfl, iteT ?_⟩
      refine ⟨_, rfl, p, l, _, 3, rfl, P3, by omega, by omega, by omega, fun d G3 d0 d1 kp3 P4 => ?_⟩
      refine ⟨_, _, rfl, rfl, 1 + d, rfl, by omega, by omega, fun L hL => ?_⟩
      rw [show (1 + d).toNat = d.toNat + 1 by omega]
      have Lp := P4.ne hL
      refine lc_range (fun i G' => Kp p G3 G' ∧ Pen G' p l (c + 2 + i) ∧ ∃ ws : List Str, G' L = some (.lst (ws.map V.str)) ∧ ws.length = i ∧ ∀ x ∈ ws, x ∈ endS) ⟨Kp.new hL, (P4.new hL).mono (by omega), [], upd_same, rfl, fun x h => nomatch h⟩ ?_ ?_
      · rintro i G5 hi ⟨kp5, P5, ws, hl, len, mem⟩
        refine ⟨rfl, _, rfl, by show 5 ≤ sizeLine; decide, fun q G6 nq sq hq => ⟨p, l, q, _, _, rfl, P5.same sq, by omega, P5.ne nq, SqL.of hq, by show 0 < 5; decide, by show 5 ≤ 1000000; decide, fun v G7 hv kp7 P7 => ?_⟩⟩
        obtain ⟨y, hy, rfl⟩ : ∃ y, y ∈ endS ∧ V.str y = v := List.mem_map.mp (show v ∈ endS.map V.str from hv)
        have hl4 := kp7 L _ Lp (sq _ _ hl)
        refine ⟨_, hl4, by rw [List.length_map, len]; exact big_line' (by omega), ((kp5.trans (Kp.same sq)).trans kp7).fresh hL, (P7.upd Lp (P4.nel hL)).mono (by omega), ws ++ [y], by rw [upd_same, List.map_append]; rfl, by rw [List.length_append, len]; rfl, fun x hx => ?_⟩
        rcases List.mem_append.mp hx with hx | hx
        · exact mem x hx
        · rw [List.mem_singleton.mp hx]
          exact hy
      · rintro G5 ⟨kp5, P5, es, hl, len, mem⟩
        refine ⟨_, rfl, _, rfl, _, rfl, p, l, _, 2, rfl, P5, by omega, by omega, by omega, fun d2 G6 e0 e1 kp6 P6 => ⟨d2, rfl, by omega, by omega, fun L2 hL2 => ?_⟩⟩
        have L2p := P6.ne hL2
        refine lc_range (fun i G' => Kp p G6 G' ∧ Pen G' p l (c + 10 + i) ∧ ∃ ws : List Str, G' L2 = some (.lst (ws.map V.str)) ∧ ws.length = i ∧ ∀ x ∈ ws, x ∈ poolS) ⟨Kp.new hL2, (P6.new hL2).mono (by omega), [], upd_same, rfl, fun x h => nomatch h⟩ ?_ ?_
        · rintro i G7 hi ⟨kp7, P7, ws, hl2, len2, mem2⟩
          refine ⟨rfl, _, rfl, rfl, fun q G8 nq sq hq => ⟨p, l, q, _, _, rfl, P7.same sq, by omega, P7.ne nq, SqL.of hq, by show 0 < 8; decide, by show 8 ≤ 1000000; decide, fun v G9 hv kp9 P9 => ?_⟩⟩
          obtain ⟨y, hy, rfl⟩ := List.mem_map.mp hv
          have hl4 := kp9 L2 _ L2p (sq _ _ hl2)
          refine ⟨_, hl4, by rw [List.length_map, len2]; exact big_line' (by omega), ((kp7.trans (Kp.same sq)).trans kp9).fresh hL2, (P9.upd L2p (P6.nel hL2)).mono (by omega), ws ++ [y], by rw [upd_same, List.map_append]; rfl, by rw [List.length_append, len2]; rfl, fun x hx => ?_⟩
          rcases List.mem_append.mp hx with hx | hx
          · exact mem2 x hx
          · rw [List.mem_singleton.mp hx]
            exact hy
        · rintro G7 ⟨kp7, P7, kk, hl2, len2, mem2⟩
          have hlE := kp7 _ _ Lp (kp6 _ _ Lp hl)
          have kpE : Kp p G G7 := (kp02.trans kp3).trans (kp5.trans (kp6.trans kp7))
          exact ⟨by show 3 ≤ sizeLine; decide, fun tt G9 nt s9 ht => k tt (.stem es kk) G9 (kpE.free (P7.ne nt) nt) ⟨L, L2, (kp02.trans kp3).free Lp hL, ((kp02.trans kp3).trans (kp5.trans kp6)).free L2p hL2, ht, s9 _ _ hlE, s9 _ _ hl2⟩ ⟨by omega, by omega, mem, by omega, mem2⟩ (fun h => by rw [hh] at h; cases h) (kpE.trans (Kp.same s9)) ((P7.same s9).mono (by omega))⟩
end
def LsAt (F : Addr → Prop) (G : Hp) : List Addr → List LP → Prop
  | [], [] => True
  | a :: as, lp :: ls => lp.atF F G a ∧ LsAt F G as ls
  | _, _ => False
theorem LP.atF.keep {F : Addr → Prop} {G G' : Hp} {a : Addr} {lp : LP} (h : lp.atF F G a) (kt : ∀ t xs, G t = some (.tup xs) → G' t = some (.tup xs)) (kl : ∀ t xs, F t → G t = some (.lst xs) → G' t = some (.lst xs)) : lp.atF F G' a := by
  obtain ⟨r, l, f1, f2, h1, h2⟩ := h
  refine ⟨r, l, f1, f2, kt _ _ h1, ?_⟩
  cases lp with
  | stop ws => exact ⟨kl _ _ f1 h2.1, kl _ _ f2 h2.2⟩
  | drop ws => exact ⟨kl _ _ f1 h2.1, kl _ _ f2 h2.2⟩
  | swap ps =>
    obtain ⟨⟨as, e1, e2⟩, e3⟩ := h2
    exact ⟨⟨as, kl _ _ f1 e1, e2.same kt⟩, kl _ _ f2 e3⟩
  | stem es kk => exact ⟨kl _ _ f1 h2.1, kl _ _ f2 h2.2⟩
theorem LsAt.keep {F : Addr → Prop} {G G' : Hp} (kt : ∀ t xs, G t = some (.tup xs) → G' t = some (.tup xs)) (kl : ∀ t xs, F t → G t = some (.lst xs) → G' t = some (.lst xs)) : ∀ {as : List Addr} {ls : List LP}, LsAt F G as ls → LsAt F G' as ls
  | [], [], _ => True.intro
  | _ :: as, _ :: ls, h => ⟨h.1.keep kt kl, LsAt.keep (as := as) (ls := ls) kt kl h.2⟩
  | [], _ :: _, h => h.elim
  | _ :: _, [], h => h.elim
theorem LsAt.same {F : Addr → Prop} {G G' : Hp} (s : Same G G') {as : List Addr} {ls : List LP} (h : LsAt F G as ls) : LsAt F G' as ls := h.keep (fun t xs e => s _ _ e) (fun t xs _ e => s _ _ e)
theorem LsAt.weak {F F' : Addr → Prop} {G : Hp} (hF : ∀ b, F b → F' b) : ∀ {as : List Addr} {ls : List LP}, LsAt F G as ls → LsAt F' G as ls
  | [], [], _ => True.intro
  | _ :: as, _ :: ls, h => by
    obtain ⟨⟨r, l, f1, f2, h1, h2⟩, t⟩ := h
    exact ⟨⟨r, l, hF _ f1, hF _ f2, h1, h2⟩, LsAt.weak (as := as) (ls := ls) hF t⟩
  | [], _ :: _, h => h.elim
  | _ :: _, [], h => h.elim
theorem LsAt.len {F : Addr → Prop} {G : Hp} : ∀ {as : List Addr} {ls : List LP}, LsAt F G as ls → as.length = ls.length
  | [], [], _ => rfl
  | _ :: as, _ :: ls, h => congrArg (· + 1) (LsAt.len (as := as) (ls := ls) h.2)
  | [], _ :: _, h => h.elim
  | _ :: _, [], h => h.elim
theorem LsAt.get {F : Addr → Prop} {G : Hp} : ∀ {as : List Addr} {ls : List LP} {i : Nat} {a : Addr}, LsAt F G as ls → as[i]? = some a → ∃ lp, ls[i]? = some lp ∧ lp.atF F G a
  | [], [], _, _, _, e => nomatch e
  | _ :: _, s :: _, 0, _, h, e => ⟨s, rfl, by cases e; exact h.1⟩
  | _ :: as, _ :: ls, i + 1, _, h, e => LsAt.get (as := as) (ls := ls) (i := i) h.2 e
  | [], _ :: _, _, _, h, _ => h.elim
  | _ :: _, [], _, _, h, _ => h.elim
theorem LsAt.snoc {F : Addr → Prop} {G : Hp} {a : Addr} {lp : LP} : ∀ {as : List Addr} {ls : List LP}, LsAt F G as ls → lp.atF F G a → LsAt F G (as ++ [a]) (ls ++ [lp])
  | [], [], _, h => ⟨h, True.intro⟩
  | _ :: as, _ :: ls, h0, h => ⟨h0.1, LsAt.snoc (as := as) (ls := ls) h0.2 h⟩
  | [], _ :: _, h0, _ => h0.elim
  | _ :: _, [], h0, _ => h0.elim
theorem LsAt.take {F : Addr → Prop} {G : Hp} : ∀ {as : List Addr} {ls : List LP} (n : Nat), LsAt F G as ls → LsAt F G (as.take n) (ls.take n)
  | [], [], n, _ => by rw [List.take_nil, List.take_nil]; exact True.intro
  | _ :: _, _ :: _, 0, _ => True.intro
  | _ :: as, _ :: ls, n + 1, h => ⟨h.1, LsAt.take (as := as) (ls := ls) n h.2⟩
  | [], _ :: _, _, h => h.elim
  | _ :: _, [], _, h => h.elim
theorem LsAt.drop {F : Addr → Prop} {G : Hp} : ∀ {as : List Addr} {ls : List LP} (n : Nat), LsAt F G as ls → LsAt F G (as.drop n) (ls.drop n)
  | [], [], n, _ => by rw [List.drop_nil, List.drop_nil]; exact True.intro
  | _ :: _, _ :: _, 0, h => h
  | _ :: as, _ :: ls, n + 1, h => LsAt.drop (as := as) (ls := ls) n h.2
  | [], _ :: _, _, h => h.elim
  | _ :: _, [], _, h => h.elim
/-- one step of endings at most -/
def LOne (ls : List LP) : Prop := (ls.filter (·.isM)).length ≤ 1
theorem inV_sorts : ∀ ls : List LP, inV (.str (Str.ofString "stem")) (ls.map fun lp => V.str lp.sort) = ls.any (·.isM)
  | [] => rfl
  | lp :: ls => by
    show ((eqV (.str lp.sort) (.str (Str.ofString "stem"))) || inV (.str (Str.ofString "stem")) (ls.map fun lp => V.str lp.sort)) = (lp.isM || ls.any (·.isM))
    rw [inV_sorts ls]
    have : eqV (.str lp.sort) (.str (Str.ofString "stem")) = lp.isM := by cases lp <;> rfl
    rw [this]
theorem LOne.snoc {ls : List LP} {lp : LP} (h : LOne ls) (hn : ls.any (·.isM) = true → lp.isM = false) : LOne (ls ++ [lp]) := by
  unfold LOne at h ⊢
  rw [List.filter_append, List.length_append]
  by_cases e : ls.any (·.isM) = true
  · have : ([lp].filter (·.isM)) = [] := by
      rw [List.filter_cons, hn e]
      rfl
    rw [this]
    exact h
  · have : ls.filter (·.isM) = [] := List.filter_eq_nil_iff.mpr fun x hx hm => e (List.any_eq_true.mpr ⟨x, hx, hm⟩)
    rw [this]
    have := List.length_filter_le (fun x : LP => x.isM) [lp]
    show 0 + ([lp].filter (·.isM)).length ≤ 1
    simpa using this
def spSteps : Sp := fun vs G Q _ => ∃ (p l : Addr) (c : Int) (most : Nat), vs = [.ref p, .int (most : Int)] ∧ Pen G p l c ∧ c ≤ 800000 ∧ most ≤ 5 ∧
  ∀ (L : Addr) (as : List Addr) (ls : List LP) (G' : Hp), G L = none → G' L = some (.lst (as.map V.ref)) → LsAt (fun b => G b = none ∧ b ≠ L) G' as ls → (∀ lp ∈ ls, lp.good) → LOne ls → ls.length ≤ most → Kp p G G' → Pen G' p l (c + 200) → Q (.ref L) G'
abbrev stepsN : List Str := ["_law_pen_here", "_law_most", "_law_line_so", "_law_turn", "_law_one"]
section
variable {P : Program} {w : World} {K : PySem.W.Frag} {mg : Str → Option Value} {base : Heap}
theorem scSteps : FnScope stepsN ["_law_pen_here", "_law_most"] (defScope sSteps) := ⟨rfl, rfl, rfl, by decide +kernel, rfl, by decide +kernel, by decide +kernel⟩
theorem ok_steps (D : DefIn K mg "_law_steps" sSteps) (B : Blt mg) (F__law_draw : Ok P w K mg base "_law_draw" (defArgs sDraw) ["_law_pen_here", "_law_many"] 1 spDraw) (F__law_step : Ok P w K mg base "_law_step" (defArgs sStep) ["_law_pen_here", "_law_has_stem"] 4 spStep) :
    Ok P w K mg base "_law_steps" (defArgs sSteps) ["_law_pen_here", "_law_most"] 5 spSteps := by
  refine D.ok scSteps (fun vs G Q E h => ?_) (fun _ _ _ _ _ _ us hl => match us, hl with | [_, _], _ => rfl) (fun f cdv A out t G vs Q E hr h => ?_)
  · obtain ⟨p, l, c, most, rfl, _⟩ := h
    rfl
  · obtain ⟨p, l, c, most, rfl, P0, hc, hm, k⟩ := h
    refine ⟨_, (pss_cons (ps_set (i := 2) scSteps.nd rfl (by first | exact Or.inl rfl | exact Or.inr rfl) (pn_lst pa_nil))
    (pss_cons (ps_for (passes_of rfl) rfl (pi_range1 (by rfl) B.n_range (pa_cons (pe_own F__law_draw (hr.mono (by decide)) takes0 (pa_cons (pv 0) (pa_cons (pe_op op_add (pv 1) pe_int) pa_nil))) pa_nil)) (pg_name (i := 3) scSteps.nd rfl (by first | exact Or.inl rfl | exact Or.inr rfl))
      (pss_one (ps_expr (pe_bm PySem.F.plainAttrs_list PySem.F.slot_list_append PySem.F.type_list_append mt_append (pv 2) (pa_cons (pe_own F__law_step (hr.mono (by decide)) takes0 (pa_cons (pv 0) (pa_cons (pe_cmpR op_in_seq pe_str (pe_lc (own := [("_law_one", 4)]) (tt := tYes) rfl scSteps.nd (pi_list (pv 2)) (blkOk_by (N := stepsN) (sc := defScope sSteps) (by decide +kernel)) (fun _ _ _ _ _ => pg_name (i := 4) scSteps.nd rfl (by first | exact Or.inl rfl | exact Or.inr rfl)) (fun _ _ _ _ _ => pts_nil) (fun _ _ _ _ _ => (pe_ix (r := rIxT K) ix_tup (pv 4) pe_int (fun _ _ => rfl)))) (by rfl)) pa_nil))) pa_nil)))))
    (pss_one (ps_ret (pv 2))))), ?_⟩
    refine ⟨by show 0 ≤ sizeLine; decide, fun L G1 n1 s1 e1 => ?_⟩
    have P1 := P0.same s1
    have Lp := P0.ne n1
    have Ll := P0.nel n1
    refine ⟨_, rfl, _, rfl, _, _, rfl, rfl, p, l, c, _, rfl, P1, by omega, by omega, by omega, fun d G2 d0 d1 kp2 P2 => ⟨d, rfl, by omega, by omega, ?_⟩⟩
    refine for_range (fun i σ' G' => ∃ o3 o4 as ls, σ' = [some (.ref p), some (.int (most : Int)), some (.ref L), o3, o4] ∧ G' L = some (.lst (as.map V.ref)) ∧ LsAt (fun b => G b = none ∧ b ≠ L) G' as ls ∧ (∀ lp ∈ ls, lp.good) ∧ LOne ls ∧ ls.length = i ∧ Kp p G G' ∧ Pen G' p l (c + 1 + 30 * i)) ⟨none, none, [], [], rfl, kp2 _ _ Lp e1, True.intro, (fun lp h => nomatch h), Nat.zero_le _, rfl, (Kp.same s1).trans kp2, P2.mono (by omega)⟩ ?_ ?_
    · rintro i σ1 G3 hi ⟨o3, o4, as, ls, rfl, hL, hls, good, one, len, kp3, P3⟩
      have i5 : i < 6 := by omega
      have al := hls.len
      refine ⟨_, rfl, .inl ⟨rfl, _, SqL.of hL⟩, _, rfl, _, rfl, L, rfl, ⟨_, SqL.of hL⟩, fun M hM => lc_it walk_list (fun j G' => Same G3 G' ∧ G' M = some (.lst ((ls.take j).map fun lp => V.str lp.sort))) ⟨Same.new hM, by rw [upd_same]; rfl⟩ (fun j G' _ h => SqL.of (h.1 _ _ hL)) ?_ ?_⟩
      · rintro j x G4 G5 hj ⟨s4, hm4⟩ ⟨rfl, hx⟩
        obtain ⟨a, ha, rfl⟩ := map_at hx
        obtain ⟨lp, hlp, r, l', _, _, h1, _⟩ := hls.get ha
        refine ⟨rfl, _, rfl, a, _, 0, _, rfl, rfl, SqT.of (s4 _ _ h1), rfl, _, hm4, by rw [List.length_map, List.length_take]; exact big_line' (by omega), Qh.Same.fresh s4 hM, ?_⟩
        rw [upd_same, take_get hlp, List.map_append]
        rfl
      · rintro G4 ⟨s4, hm4⟩
        rw [List.length_map, al, List.take_length] at hm4
        have flat : (ls.map fun lp => V.str lp.sort).all flatV = true := by
          rw [List.all_map]
          exact List.all_eq_true.mpr fun _ _ => rfl
        refine ⟨M, _, rfl, .inl (SqL.of hm4), rfl, flat, ?_⟩
        have hin : (if false = true then !inV (V.str (Str.ofString "stem")) (ls.map fun lp => V.str lp.sort) else inV (V.str (Str.ofString "stem")) (ls.map fun lp => V.str lp.sort)) = ls.any (·.isM) := inV_sorts ls
        rw [hin]
        refine ⟨p, l, _, _, rfl, P3.same s4, by omega, fun a lp G5 na ha lg hs kp5 P5 => ?_⟩
        have hL5 := kp5 _ _ Lp (s4 _ _ hL)
        refine ⟨L, _, _, rfl, rfl, hL5, by rw [List.length_map]; exact big_line' (by omega), ?_⟩
        have na0 : G a = none := kp3.free (P3.ne (s4.free na)) (s4.free na)
        have aL : a ≠ L := fun z => by rw [z, s4 _ _ hL] at na; cases na
        have tups : ∀ t xs, G3 t = some (.tup xs) → G5 t = some (.tup xs) := fun t xs e => pen_tups (P3.same s4) kp5 t xs (s4 _ _ e)
        have lists : ∀ t xs, (G t = none ∧ t ≠ L) → G3 t = some (.lst xs) → G5 t = some (.lst xs) := fun t xs hF e => kp5 _ _ (P0.ne hF.1) (s4 _ _ e)
        have updt : ∀ o t xs, G5 t = some (.tup xs) → L2.upd G5 L o t = some (.tup xs) := fun o t xs e => by
          rw [upd_ne (fun z => by rw [z, hL5] at e; cases e)]
          exact e
        have updl : ∀ o t xs, (G t = none ∧ t ≠ L) → G5 t = some (.lst xs) → L2.upd G5 L o t = some (.lst xs) := fun o t xs hF e => by
          rw [upd_ne hF.2]
          exact e
        have old : ∀ b, G4 b = none → G b = none ∧ b ≠ L := fun b hb => ⟨kp3.free (P3.ne (s4.free hb)) (s4.free hb), fun z => by rw [z, s4 _ _ hL] at hb; cases hb⟩
        have ha' : lp.atF (fun b => G b = none ∧ b ≠ L) G5 a := by
          obtain ⟨r, l', f1, f2, h1, h2⟩ := ha
          exact ⟨r, l', old _ f1, old _ f2, h1, h2⟩
        refine ⟨_, _, as ++ [a], ls ++ [lp], rfl, by rw [upd_same, List.map_append]; rfl, LsAt.snoc ((hls.keep tups lists).keep (updt _) (updl _)) (ha'.keep (updt _) (updl _)), fun q hq => ?_, one.snoc hs, by rw [List.length_append, len]; rfl, ((kp3.trans (Kp.same s4)).trans kp5).fresh n1, (P5.upd Lp Ll).mono (by omega)⟩
        rcases List.mem_append.mp hq with hq | hq
        · exact good q hq
        · rw [List.mem_singleton.mp hq]
          exact lg
    · rintro σ1 G3 ⟨o3, o4, as, ls, rfl, hL, hls, good, one, len, kp3, P3⟩
      exact ⟨_, rfl, k L as ls G3 n1 hL hls good one (by omega) kp3 (P3.mono (by omega))⟩
end
end K07
set_option Elab.async false
set_option linter.all false
set_option maxRecDepth 100000
set_option maxHeartbeats 8000000
namespace K07
open PySem PySem.Spec PyProof.Rows L2 TL Qh Qi Ql ClX Qmk Qmg Qde Qtb Qtd RT
open Sm (dueS offS uptoS inV_strs)
abbrev sStepped : Stmt := top 87
abbrev sResult : Stmt := top 88
/-- what the law says of a step -/
def LP.res (lp : LP) (v : V) : V := match v with
  | .str x => if x = Sp.hole then v else (match lp with
    | .stop ws => if x ∈ ws then .str Sp.hole else v
    | .drop ws => if x ∈ ws then .non else v
    | .swap ps => Sw.resW ps v
    | .stem es kk => .str (dueS es kk x))
  | v => v
theorem LP.res_str (lp : LP) (x : Str) : lp.res (.str x) = if x = Sp.hole then .str x else (match lp with
    | .stop ws => if x ∈ ws then .str Sp.hole else .str x
    | .drop ws => if x ∈ ws then .non else .str x
    | .swap ps => Sw.resW ps (.str x)
    | .stem es kk => .str (dueS es kk x)) := rfl
def lresAll (ls : List LP) (v : V) : V := ls.foldl (fun v lp => lp.res v) v
theorem kvs_get {x : Str} : ∀ ps : List (Str × Str), (valV (ps.map fun p => ((Sum.inr p.1 : Key), V.str p.2)) (.inr x)).getD (.str x) = Sw.resW ps (.str x)
  | [] => rfl
  | p :: ps => by
    unfold Sw.resW
    rw [List.find?_cons]
    by_cases e : p.1 = x
    · rw [decide_eq_true (congrArg V.str e)]
      have : valV (((Sum.inr p.1 : Key), V.str p.2) :: ps.map fun p => ((Sum.inr p.1 : Key), V.str p.2)) (.inr x) = some (.str p.2) := valV_pos (p := ((Sum.inr p.1 : Key), V.str p.2)) (congrArg Sum.inr e)
      show (valV (((Sum.inr p.1 : Key), V.str p.2) :: ps.map fun p => ((Sum.inr p.1 : Key), V.str p.2)) (.inr x)).getD (.str x) = .str p.2
      rw [this]
      rfl
    · rw [decide_eq_false (fun h => e (V.str.inj h))]
      have : valV (((Sum.inr p.1 : Key), V.str p.2) :: ps.map fun p => ((Sum.inr p.1 : Key), V.str p.2)) (.inr x) = valV (ps.map fun p => ((Sum.inr p.1 : Key), V.str p.2)) (.inr x) := valV_neg (p := ((Sum.inr p.1 : Key), V.str p.2)) fun h => e (Sum.inr.inj h)
      show (valV (((Sum.inr p.1 : Key), V.str p.2) :: ps.map fun p => ((Sum.inr p.1 : Key), V.str p.2)) (.inr x)).getD (.str x) = _
      rw [this, kvs_get ps]
      rfl
theorem pairs_paired {K : PySem.W.Frag} {G : Hp} : ∀ {as : List Addr} {ps : List (Str × Str)}, Sw.PairsAt G as ps → Paired (fun p (kv : Key × V) => SqT K G p [kV kv.1, kv.2]) as (ps.map fun p => ((Sum.inr p.1 : Key), V.str p.2))
  | _, _, .nil => .nil
  | _, _, .cons h t => .cons (SqT.of h) (pairs_paired t)
theorem kvs_nd {ps : List (Str × Str)} (h : (ps.map (·.1)).Nodup) : ((ps.map fun p => ((Sum.inr p.1 : Key), V.str p.2)).map (·.1)).Nodup := by
  rw [List.map_map]
  have : (ps.map ((fun x : Key × V => x.1) ∘ fun p => ((Sum.inr p.1 : Key), V.str p.2))) = (ps.map (·.1)).map Sum.inr := by
    rw [List.map_map]
    rfl
  rw [this]
  exact List.Pairwise.map _ (fun a b ne e => ne (Sum.inr.inj e)) h
def spStepped : Sp := fun vs G Q _ => ∃ (a : Addr) (lp : LP) (v : V), vs = [.ref a, v] ∧ lp.at G a ∧ lp.good ∧ wv v ∧ ∀ G', Same G G' → Q (lp.res v) G'
abbrev stpN : List Str := ["_law_plain", "_law_thing", "_law_sort", "_law_row", "_law_left", "_law_cut"]
theorem LP.res_wv {lp : LP} (g : lp.good) {v : V} (hv : wv v) : wv (lp.res v) := by
  rcases hv with rfl | ⟨x, rfl, hx⟩
  · exact .inl rfl
  · rw [LP.res_str]
    split
    · exact .inr ⟨x, rfl, hx⟩
    · cases lp with
      | stop ws =>
        show wv (if x ∈ ws then V.str Sp.hole else .str x)
        split
        · exact .inr ⟨_, rfl, by rw [hole_len]; decide⟩
        · exact .inr ⟨x, rfl, hx⟩
      | drop ws =>
        show wv (if x ∈ ws then V.non else .str x)
        split
        · exact .inl rfl
        · exact .inr ⟨x, rfl, hx⟩
      | swap ps =>
        show wv (Sw.resW ps (.str x))
        unfold Sw.resW
        split
        · next p hp =>
          have := (pool_txt _ (g.2.2.1 p (List.mem_of_find?_eq_some hp)).2).2.1
          exact .inr ⟨_, rfl, by omega⟩
        · exact .inr ⟨x, rfl, hx⟩
      | stem es kk => exact .inr ⟨_, rfl, Nat.le_trans (dueS_len es kk x) hx⟩
theorem lresAll_wv : ∀ {ls : List LP}, (∀ lp ∈ ls, lp.good) → ∀ {v : V}, wv v → wv (lresAll ls v)
  | [], _, _, hv => hv
  | lp :: ls, h, v, hv => lresAll_wv (ls := ls) (fun t ht => h t (List.mem_cons_of_mem _ ht)) (LP.res_wv (h lp List.mem_cons_self) hv)
def spResult : Sp := fun vs G Q _ => ∃ (F : Addr → Prop) (L : Addr) (as : List Addr) (ls : List LP) (x : Str), vs = [.ref L, .str x] ∧ G L = some (.lst (as.map V.ref)) ∧ LsAt F G as ls ∧ (∀ lp ∈ ls, lp.good) ∧ x.length ≤ 1000 ∧ ∀ G', Same G G' → Q (lresAll ls (.str x)) G'
section
variable {P : Program} {w : World} {K : PySem.W.Frag} {mg : Str → Option Value} {base : Heap}
theorem scStepped : FnScope stpN ["_law_plain", "_law_thing"] (defScope sStepped) := ⟨rfl, rfl, rfl, by decide +kernel, rfl, by decide +kernel, by decide +kernel⟩
theorem ok_stepped (D : DefIn K mg "_law_stepped" sStepped) (B : Blt mg) : Ok P w K mg base "_law_stepped" (defArgs sStepped) ["_law_plain", "_law_thing"] 2 spStepped := by
  refine D.ok scStepped (fun vs G Q E h => ?_) (fun _ _ _ _ _ _ us hl => match us, hl with | [_, _], _ => rfl) (fun f cdv A out t G vs Q E hr h => ?_)
  · obtain ⟨a, lp, v, rfl, _⟩ := h
    rfl
  · obtain ⟨a, lp, v, rfl, ⟨r, l, h1, h2⟩, good, hv, k⟩ := h
    have hu1 := Nat.lt_of_le_of_lt (Nat.add_le_add_left (show 1 ≤ 64 by decide) _) hr.units
    refine ⟨_, (pss_cons (ps_asg (pv 0) (pg_tup rfl (pgs_cons (pg_name (i := 2) scStepped.nd rfl (by first | exact Or.inl rfl | exact Or.inr rfl)) (pgs_cons (pg_name (i := 3) scStepped.nd rfl (by first | exact Or.inl rfl | exact Or.inr rfl)) (pgs_cons (pg_name (i := 4) scStepped.nd rfl (by first | exact Or.inl rfl | exact Or.inr rfl)) pgs_nil)))))
    (pss_cons (ps_if (PW.pt (pw_or (pt_cmpR op_isN (pv 1) pe_non (nomark _)) (pw_or (pt_cmpR op_eq (pv 1) pe_str (nomark _)) (pw_or1 (pt_cmpR op_in_seq (pv 1) (pv 4) (by rfl)))))) (pss_one (ps_ret (pv 1))) pss_nil)
    (pss_cons (ps_if (pt_cmpR op_eq (pv 2) pe_str (nomark _)) (pss_cons (ps_for (passes_of rfl) rfl (pi_range2 (by rfl) B.n_range (pa_cons pe_int (pa_cons (pe_callB (r := rLen K) call_len (by rfl) B.n_len bt_len (pa_cons (pv 1) pa_nil)) pa_nil))) (pg_name (i := 5) scStepped.nd rfl (by first | exact Or.inl rfl | exact Or.inr rfl))
      (pss_one (ps_if (pt_cmpR op_in_seq (pe_slice sl_str (pv 1) (po_some (pv 5)) po_none) (pv 3) (by rfl)) (pss_one (ps_ret (pe_slice sl_str (pv 1) po_none (po_some (pv 5))))) pss_nil)))
    (pss_one (ps_ret (pv 1)))) pss_nil)
    (pss_cons (ps_if (pt_cmpR op_eq (pv 2) pe_str (nomark _)) (pss_one (ps_ret (pe_dget2N hu1 (pe_callTy (call_dictP rfl) (by rfl) B.n_dict bt_dict (pa_cons (pv 3) pa_nil)) (pv 1) (pv 1) ⟨rfl, rfl, rfl, rfl⟩))) pss_nil)
    (pss_one (ps_ret (pe_ix ix_list (pn_lst (pa_cons (pv 1) (pa_cons pe_str (pa_cons pe_non pa_nil)))) (pe_op op_mul (pe_callTy call_int1 (by rfl) B.n_int bt_int (pa_cons (pe_cmpR op_in_seq (pv 1) (pv 3) (by rfl)) pa_nil)) (pe_ix ix_list (pn_lst (pa_cons pe_int (pa_cons pe_int pa_nil))) (pe_callTy call_int1 (by rfl) B.n_int bt_int (pa_cons (pe_cmpR op_eq (pv 2) pe_str (nomark _)) pa_nil)) (fun _ _ => rfl))) (fun _ _ => rfl)))))))), ?_⟩
    refine ⟨_, rfl, a, _, rfl, SqT.of h1, rfl, _, _, rfl, _, _, rfl, _, _, rfl, rfl, ?_⟩
    rcases hv with rfl | ⟨x, rfl, hx⟩
    · exact ⟨_, rfl, rfl, _, rfl, iteT ⟨_, rfl, k G (Same.refl G)⟩⟩
    · refine ⟨_, rfl, rfl, _, rfl, iteF ?_⟩
      refine ⟨_, rfl, rfl, _, rfl, ?_⟩
      rw [LP.res_str] at k
      refine ite2 (fun hq => ?_) (fun hq => ?_)
      · have hq : x = Sp.hole := V.str.inj (of_decide_eq_true hq)
        rw [if_pos hq] at k
        exact ⟨_, rfl, k G (Same.refl G)⟩
      have hq : x ≠ Sp.hole := fun h => hq (decide_eq_true (congrArg V.str h))
      rw [if_neg hq] at k
      have big := big_line (show x.length ≤ 1000000 by omega)
      cases lp with
      | stop ws =>
        obtain ⟨hr2, hl2⟩ := h2
        refine ⟨_, rfl, _, rfl, l, _, rfl, .inl (SqL.of hl2), rfl, rfl, _, rfl, iteF ?_⟩
        refine ⟨_, rfl, rfl, _, rfl, iteF ?_⟩
        refine ⟨_, rfl, rfl, _, rfl, iteF ?_⟩
        refine ⟨_, rfl, by show 3 ≤ sizeLine; decide, fun L3 G3 n3 s3 e3 => ?_⟩
        refine ⟨_, rfl, _, rfl, r, _, rfl, .inl (SqL.of (s3 _ _ hr2)), rfl, flat_strs ws, .inr ⟨_, rfl, by show 2 ≤ sizeLine; decide, fun L4 G4 n4 s4 e4 => ?_⟩⟩
        rw [show (if false = true then !inV (.str x) (ws.map V.str) else inV (.str x) (ws.map V.str)) = decide (x ∈ ws) from inV_strs x ws]
        refine ⟨_, rfl, rfl, .inr ⟨_, rfl, L4, _, _, .int 1, rfl, rfl, SqL.of e4, rfl, _, _, rfl, rfl, ?_, L3, _, _, _, rfl, rfl, SqL.of (s4 _ _ e3), ?_, k G4 (s3.trans s4)⟩⟩
        · refine .inr ⟨by decide, by decide⟩
        · show atI _ _ = some (if x ∈ ws then V.str Sp.hole else V.str x)
          by_cases hm : x ∈ ws
          · rw [if_pos hm, decide_eq_true hm]
            rfl
          · rw [if_neg hm, decide_eq_false hm]
            rfl
      | drop ws =>
        obtain ⟨hr2, hl2⟩ := h2
        refine ⟨_, rfl, _, rfl, l, _, rfl, .inl (SqL.of hl2), rfl, rfl, _, rfl, iteF ?_⟩
        refine ⟨_, rfl, rfl, _, rfl, iteF ?_⟩
        refine ⟨_, rfl, rfl, _, rfl, iteF ?_⟩
        refine ⟨_, rfl, by show 3 ≤ sizeLine; decide, fun L3 G3 n3 s3 e3 => ?_⟩
        refine ⟨_, rfl, _, rfl, r, _, rfl, .inl (SqL.of (s3 _ _ hr2)), rfl, flat_strs ws, .inr ⟨_, rfl, by show 2 ≤ sizeLine; decide, fun L4 G4 n4 s4 e4 => ?_⟩⟩
        rw [show (if false = true then !inV (.str x) (ws.map V.str) else inV (.str x) (ws.map V.str)) = decide (x ∈ ws) from inV_strs x ws]
        refine ⟨_, rfl, rfl, .inr ⟨_, rfl, L4, _, _, .int 2, rfl, rfl, SqL.of e4, rfl, _, _, rfl, rfl, ?_, L3, _, _, _, rfl, rfl, SqL.of (s4 _ _ e3), ?_, k G4 (s3.trans s4)⟩⟩
        · refine .inr ⟨by decide, by decide⟩
        · show atI _ _ = some (if x ∈ ws then V.non else V.str x)
          by_cases hm : x ∈ ws
          · rw [if_pos hm, decide_eq_true hm]
            rfl
          · rw [if_neg hm, decide_eq_false hm]
            rfl
      | swap ps =>
        obtain ⟨⟨as, hr2, hpa⟩, hl2⟩ := h2
        have nd := kvs_nd good.2.2.2
        refine ⟨_, rfl, _, rfl, l, _, rfl, .inl (SqL.of hl2), rfl, rfl, _, rfl, iteF ?_⟩
        refine ⟨_, rfl, rfl, _, rfl, iteF ?_⟩
        refine ⟨_, rfl, rfl, _, rfl, iteT ?_⟩
        refine ⟨_, rfl, r, as, _, rfl, SqL.of hr2, pairs_paired hpa, fun D0 hD => ⟨D0, rfl, .inl ⟨_, .inl upd_same⟩, _, rfl, _, rfl, .inr ⟨_, DGet.k (k := .inr x) upd_same, ?_⟩⟩⟩
        rw [val_copy nd, kvs_get]
        exact k _ (Same.new hD)
      | stem es kk =>
        obtain ⟨hr2, hl2⟩ := h2
        refine ⟨_, rfl, _, rfl, l, _, rfl, .inl (SqL.of hl2), rfl, flat_strs kk, _, rfl, ?_⟩
        rw [show (if false = true then !inV (.str x) (kk.map V.str) else inV (.str x) (kk.map V.str)) = decide (x ∈ kk) from inV_strs x kk]
        have h : Q (.str (dueS es kk x)) G := k G (Same.refl G)
        refine ite2 (fun hk => ?_) (fun hk => ?_)
        · have hk := of_decide_eq_true hk
          have e : dueS es kk x = x := by
            unfold dueS
            exact if_pos hk
          rw [e] at h
          exact ⟨_, rfl, h⟩
        have hk : x ∉ kk := fun h => hk (decide_eq_true h)
        have due : dueS es kk x = match (List.range (x.length - 2)).find? (fun j => decide (offS x (j + 2) ∈ es)) with
          | some j => uptoS x (j + 2)
          | none => x := by
          unfold dueS
          exact if_neg hk
        refine ⟨_, rfl, rfl, _, rfl, iteT ?_⟩
        refine ⟨_, rfl, .str x, x.length, rfl, ⟨big, rfl⟩, 2, (x.length : Int), rfl, ⟨by decide, by decide, by omega, by omega⟩, ?_⟩
        have en : ((x.length : Int) - 2).toNat = x.length - 2 := by omega
        rw [en]
        refine for_range (fun i σ' G' => ∃ o5, σ' = [some (.ref a), some (.str x), some (.str (Str.ofString "stem")), some (.ref r), some (.ref l), o5] ∧ G' = G ∧ ∀ j, j < i → offS x (j + 2) ∉ es) ⟨none, rfl, rfl, fun j hj => absurd hj (Nat.not_lt_zero j)⟩ ?_ ?_
        · rintro i σ1 G1 hi ⟨o5, rfl, rfl, hno⟩
          have e2 : (2 : Int) + (i : Int) = ((i + 2 : Nat) : Int) := by omega
          rw [e2]
          refine ⟨_, rfl, _, rfl, _, rfl, x, rfl, big, _, rfl, r, _, rfl, .inl (SqL.of hr2), rfl, flat_strs es, _, rfl, ?_⟩
          rw [show (if false = true then !inV (.str (cutS x (some ((i + 2 : Nat) : Int)) none)) (es.map V.str) else inV (.str (cutS x (some ((i + 2 : Nat) : Int)) none)) (es.map V.str)) = decide (offS x (i + 2) ∈ es) from inV_strs _ es]
          refine ite2 (fun hm => ?_) (fun hm => ?_)
          · refine ⟨_, rfl, _, rfl, _, rfl, x, rfl, big, ?_⟩
            rw [due, List.find?_range_eq_some.mpr ⟨hm, List.mem_range.mpr hi, fun j hj => by rw [decide_eq_false (hno j hj)]; rfl⟩] at h
            exact h
          · refine ⟨_, rfl, rfl, fun j hj => ?_⟩
            by_cases hji : j = i
            · subst hji
              exact fun z => hm (decide_eq_true z)
            · exact hno j (by omega)
        · rintro σ1 G1 ⟨o5, rfl, rfl, hno⟩
          rw [due, List.find?_range_eq_none.mpr fun j hj => by rw [decide_eq_false (hno j hj)]; rfl] at h
          exact ⟨_, rfl, h⟩
theorem scResult : FnScope ["_law_line_so", "_law_thing", "_law_plain"] ["_law_line_so", "_law_thing"] (defScope sResult) := ⟨rfl, rfl, rfl, by decide +kernel, rfl, by decide +kernel, by decide +kernel⟩
theorem ok_result (D : DefIn K mg "_law_result" sResult) (F_stepped : Ok P w K mg base "_law_stepped" (defArgs sStepped) ["_law_plain", "_law_thing"] 2 spStepped) : Ok P w K mg base "_law_result" (defArgs sResult) ["_law_line_so", "_law_thing"] 3 spResult := by
  refine D.ok scResult (fun vs G Q E h => ?_) (fun _ _ _ _ _ _ us hl => match us, hl with | [_, _], _ => rfl) (fun f cdv A out t G vs Q E hr h => ?_)
  · obtain ⟨F, L, as, ls, x, rfl, _⟩ := h
    rfl
  · obtain ⟨F, L, as, ls, x, rfl, hL, hls, good, hx, k⟩ := h
    refine ⟨_, (pss_cons (ps_for (passes_of rfl) rfl (pi_list (pv 0)) (pg_name (i := 2) scResult.nd rfl (by first | exact Or.inl rfl | exact Or.inr rfl))
      (pss_one (ps_set (i := 1) scResult.nd rfl (by first | exact Or.inl rfl | exact Or.inr rfl) (pe_own F_stepped (hr.mono (by decide)) takes0 (pa_cons (pv 2) (pa_cons (pv 1) pa_nil))))))
    (pss_one (ps_ret (pv 1)))), ?_⟩
    have al := hls.len
    refine ⟨_, rfl, L, rfl, ⟨_, SqL.of hL⟩, for_it walk_list (fun i σ' G' => ∃ o2, σ' = [some (.ref L), some (lresAll (ls.take i) (.str x)), o2] ∧ Same G G') ⟨none, rfl, Same.refl G⟩ (fun i σ' G' _ ⟨_, _, sm⟩ => SqL.of (sm _ _ hL)) ?_ ?_⟩
    · rintro i y σ1 G1 G2 hi ⟨o2, rfl, sm⟩ ⟨rfl, hy⟩
      obtain ⟨a, ha, rfl⟩ := map_at hy
      obtain ⟨lp, hlp, hat⟩ := hls.get ha
      refine ⟨_, rfl, _, rfl, a, lp, _, rfl, LP.at.same hat.at sm, good lp (List.mem_of_getElem? hlp), lresAll_wv (fun q hq => good q (List.mem_of_mem_take hq)) (.inr ⟨x, rfl, hx⟩), fun G3 s3 => ⟨some (.ref a), ?_, sm.trans s3⟩⟩
      show [some (.ref L), some (lp.res (lresAll (ls.take i) (.str x))), some (.ref a)] = _
      rw [take_get hlp]
      unfold lresAll
      rw [List.foldl_append]
      rfl
    · rintro σ1 G1 ⟨o2, rfl, sm⟩
      rw [List.length_map, al, List.take_length]
      exact ⟨_, rfl, k G1 sm⟩
end
end K07
set_option Elab.async false
set_option linter.all false
set_option maxRecDepth 100000
set_option maxHeartbeats 8000000
namespace K07
open PySem PySem.Spec PyProof.Rows L2 TL Qh Qi Ql ClX Qst Qkw Qmd Qmk K07.Sw
theorem pair_total {p q : Str × Str} (h1 : ltK (pairK p) (pairK q) = false) (h2 : ltK (pairK q) (pairK p) = false) : p = q := by
  have e := lex_total (O := itemOrd) _ _ h1 h2
  have e : [ik (.inr p.1), ik (.inr p.2)] = [ik (.inr q.1), ik (.inr q.2)] := e
  have inj : ∀ x y : Str, ik (.inr x) = ik (.inr y) → x = y := fun x y h => by
    have h : (Sum.inr x.cps.toList : Int ⊕ List Nat) = .inr y.cps.toList := h
    have h := Sum.inr.inj h
    cases x with
    | mk a =>
      cases y with
      | mk b => exact congrArg Str.mk (show a = b from Array.toList_inj.mp h)
  obtain ⟨a, b⟩ := List.cons.inj e
  obtain ⟨b, _⟩ := List.cons.inj b
  exact Prod.ext (inj _ _ a) (inj _ _ b)
theorem kvOf_inj {p q : Str × Str} (h : kvOf p = kvOf q) : p = q := by
  obtain ⟨a, b⟩ := p
  obtain ⟨c, d⟩ := q
  cases h
  rfl
theorem perm_of {ps qs : List (Str × Str)} (h : (ps.map kvOf).Perm (qs.map kvOf)) : ps.Perm qs := by
  obtain ⟨rs, p1, p2⟩ := perm_lift kvOf h qs rfl
  have : ps = rs := by
    have inj : ∀ (l m : List (Str × Str)), l.map kvOf = m.map kvOf → l = m := by
      intro l
      induction l with
      | nil => intro m e; cases m with
        | nil => rfl
        | cons _ _ => cases e
      | cons a l ih =>
        intro m e
        cases m with
        | nil => cases e
        | cons b m =>
          obtain ⟨e1, e2⟩ := List.cons.inj e
          rw [kvOf_inj e1, ih m e2]
    first | exact inj _ _ p1 | exact inj _ _ p1.symm | exact inj _ _ p2 | exact inj _ _ p2.symm
  subst this
  first | exact p2 | exact p2.symm | exact p1 | exact p1.symm
theorem sortP_uniq {kvs : List (Key × V)} {ps qs : List (Str × Str)} (h : SortP kvs ps) (k : SortP kvs qs) : ps = qs :=
  List.Perm.eq_of_pairwise (fun a b _ _ h k => pair_total k h) h.2 k.2 (perm_of (h.1.trans k.1.symm))
theorem valV_none {ps : List (Str × Str)} {y : Str} (h : y ∉ ps.map (·.1)) : valV (ps.map kvS) (.inr y : Key) = none := by
  cases e : valV (ps.map kvS) (.inr y : Key) with
  | none => rfl
  | some v =>
    obtain ⟨q, hq, e2⟩ := List.mem_map.mp (valV_in e)
    obtain ⟨z, hz, rfl⟩ := List.mem_map.mp hq
    have e2 : (Sum.inr z.1 : Key) = .inr y := e2
    exact absurd (List.mem_map.mpr ⟨z, hz, Sum.inr.inj e2⟩) h
theorem valV_some : ∀ {ps : List (Str × Str)}, (ps.map (·.1)).Nodup → ∀ p ∈ ps, valV (ps.map kvS) (.inr p.1 : Key) = some (.str p.2)
  | [], _, p, hp => nomatch hp
  | q :: ps, h, p, hp => by
    obtain ⟨n1, n2⟩ := List.nodup_cons.mp h
    unfold valV
    rw [List.map_cons, List.find?_cons]
    by_cases e : q.1 = p.1
    · have e2 : decide ((kvS q).1 = (Sum.inr p.1 : Key)) = true := decide_eq_true (congrArg Sum.inr e)
      rw [e2]
      rcases List.mem_cons.mp hp with rfl | hp
      · rfl
      · exact absurd (show q.1 ∈ ps.map (·.1) by rw [e]; exact List.mem_map_of_mem hp) n1
    · have e2 : decide ((kvS q).1 = (Sum.inr p.1 : Key)) = false := decide_eq_false fun z => e (Sum.inr.inj z)
      rw [e2]
      rcases List.mem_cons.mp hp with rfl | hp
      · exact absurd rfl e
      · exact valV_some n2 p hp
/-- what a swap makes of a word, by the dict -/
theorem res_get {ps qs : List (Str × Str)} (nd : (ps.map (·.1)).Nodup) (h : SortP (ps.map kvS) qs) (y : Str) : resW qs (.str y) = (valV (ps.map kvS) (.inr y : Key)).getD (.str y) := by
  have perm : qs.Perm ps := perm_of h.1
  by_cases hy : y ∈ ps.map (·.1)
  · obtain ⟨p, hp, rfl⟩ := List.mem_map.mp hy
    rw [valV_some nd p hp]
    have e : qs.find? (fun q => decide (V.str q.1 = V.str p.1)) = some p := by
      cases e : qs.find? (fun q => decide (V.str q.1 = V.str p.1)) with
      | none =>
        have := List.find?_eq_none.mp e p (perm.mem_iff.mpr hp)
        simp at this
      | some q =>
        have h1 := List.find?_some e
        have h2 := perm.mem_iff.mp (List.mem_of_find?_eq_some e)
        have h1 : q.1 = p.1 := by
          have := of_decide_eq_true h1
          exact V.str.inj this
        obtain ⟨i, hi⟩ := List.mem_iff_getElem?.mp h2
        obtain ⟨j, hj⟩ := List.mem_iff_getElem?.mp hp
        have il := (List.getElem?_eq_some_iff.mp hi).1
        have e1 : (ps.map (·.1))[i]? = some p.1 := by rw [List.getElem?_map, hi]; exact congrArg some h1
        have e2 : (ps.map (·.1))[j]? = some p.1 := by rw [List.getElem?_map, hj]; rfl
        have ij : i = j := (List.getElem?_inj (by rw [List.length_map]; exact il) nd).mp (e1.trans e2.symm)
        rw [ij, hj] at hi
        rw [Option.some.inj hi]
    unfold resW
    rw [e]
    rfl
  · rw [valV_none hy]
    have e : qs.find? (fun q => decide (V.str q.1 = V.str y)) = none := List.find?_eq_none.mpr fun q hq z => hy (by
      have := V.str.inj (of_decide_eq_true z)
      rw [← this]
      exact List.mem_map_of_mem (perm.mem_iff.mp hq))
    unfold resW
    rw [e]
    rfl
end K07
set_option Elab.async false
set_option linter.all false
set_option maxRecDepth 100000
set_option maxHeartbeats 8000000
namespace K07
open PySem PySem.Spec PyProof.Rows L2 TL Qh Qi Ql ClX Qmk Qmg Qde Qtb Qtd RT Qcm
abbrev sMadeStep : Stmt := top 89
/-- the first three of a row, the row again and again -/
def three (ws : List Str) : List Str := (List.replicate 3 ws).flatten.take 3
theorem three_mem {ws : List Str} (h1 : 1 ≤ ws.length) (h3 : ws.length ≤ 3) : (three ws).length = 3 ∧ ∀ y, y ∈ three ws ↔ y ∈ ws := by
  match ws, h1, h3 with
  | [a], _, _ => exact ⟨rfl, fun y => by simp [three]⟩
  | [a, b], _, _ =>
    refine ⟨rfl, fun y => ?_⟩
    show y ∈ [a, b, a] ↔ y ∈ [a, b]
    simp only [List.mem_cons, List.not_mem_nil, or_false]
    constructor
    · rintro (h | h | h)
      · exact .inl h
      · exact .inr h
      · exact .inl h
    · rintro (h | h)
      · exact .inl h
      · exact .inr (.inl h)
  | [a, b, c], _, _ => exact ⟨rfl, fun y => Iff.rfl⟩
/-- the step that is made of it -/
def MadeOf : LP → WS → Prop
  | .stop ws, .stop ss => Qs.Asc (three ws) ss
  | .drop ws, .drop ss => Qs.Asc (three ws) ss
  | .swap ps, .swap qs => Sw.SortP (ps.map kvS) qs
  | .stem es kk, .stem ss ks => Qs.Asc (three es) ss ∧ Qs.Asc kk ks
  | _, _ => False
theorem MadeOf.one {lp : LP} {s s' : WS} (h : MadeOf lp s) (h' : MadeOf lp s') : s = s' := by
  cases lp <;> cases s <;> cases s' <;> first | exact h.elim | exact h'.elim | skip
  · exact congrArg WS.stop (Qs.asc_one h h' fun _ => Iff.rfl)
  · exact congrArg WS.drop (Qs.asc_one h h' fun _ => Iff.rfl)
  · exact congrArg WS.swap (sortP_uniq h h')
  · rw [Qs.asc_one h.1 h'.1 fun _ => Iff.rfl, Qs.asc_one h.2 h'.2 fun _ => Iff.rfl]
theorem MadeOf.isM {lp : LP} {s : WS} (h : MadeOf lp s) : s.isM = lp.isM := by
  cases lp <;> cases s <;> first | exact h.elim | rfl
theorem pool_hole : Sp.hole ∉ poolS := by decide +kernel
theorem MadeOf.any {lp : LP} {s : WS} (h : MadeOf lp s) (g : lp.good) : Any s := by
  cases lp <;> cases s <;> first | exact h.elim | skip
  · next ws ss =>
    obtain ⟨g1, g2, g3⟩ := g
    obtain ⟨t1, t2⟩ := three_mem g1 (by omega)
    have hl := Qs.asc_len h
    refine ⟨by show ss.length ≤ 20; omega, fun x hx => ?_⟩
    have hx := g3 x ((t2 x).mp ((Qs.asc_mem h x).mp hx))
    exact ⟨by have := (pool_txt x hx).2.1; omega, fun e => pool_hole (e ▸ hx)⟩
  · next ws ss =>
    obtain ⟨g1, g2, g3⟩ := g
    obtain ⟨t1, t2⟩ := three_mem g1 (by omega)
    have hl := Qs.asc_len h
    refine ⟨by show ss.length ≤ 20; omega, fun x hx => ?_⟩
    have hx := g3 x ((t2 x).mp ((Qs.asc_mem h x).mp hx))
    exact ⟨by have := (pool_txt x hx).2.1; omega, fun e => pool_hole (e ▸ hx)⟩
  · next ps qs =>
    obtain ⟨g1, g2, g3, g4⟩ := g
    have perm := perm_of h.1
    refine ⟨⟨by rw [perm.length_eq]; omega, fun p hp => ?_⟩, fun x hx => ?_⟩
    · have := (pool_txt _ (g3 p (perm.mem_iff.mp hp)).2).2.1
      omega
    · obtain ⟨p, hp, rfl⟩ := List.mem_map.mp hx
      have hx := (g3 p (perm.mem_iff.mp hp)).1
      exact ⟨by have := (pool_txt _ hx).2.1; omega, fun e => pool_hole (e ▸ hx)⟩
  · next es kk ss ks =>
    obtain ⟨g1, g2, g3, g4, g5⟩ := g
    obtain ⟨t1, t2⟩ := three_mem g1 g2
    have hl := Qs.asc_len h.1
    refine ⟨⟨by omega, fun e he => ?_⟩, fun x hx => nomatch hx⟩
    have := end_txt e (g3 e ((t2 e).mp ((Qs.asc_mem h.1 e).mp he)))
    omega
theorem resW_get {ps : List (Str × Str)} {x : Str} : (valV (ps.map kvS) (.inr x : Key)).getD (.str x) = Sw.resW ps (.str x) := kvs_get ps
theorem MadeOf.res {lp : LP} {s : WS} (h : MadeOf lp s) (g : lp.good) {v : V} (hv : wv v) : s.res v = lp.res v := by
  have any := h.any g
  rcases hv with rfl | ⟨x, rfl, hx⟩
  · rw [WS.res_non]
    rfl
  · rw [LP.res_str]
    by_cases e : x = Sp.hole
    · rw [if_pos e, e]
      exact WS.res_hole any
    · rw [if_neg e]
      cases lp <;> cases s <;> first | exact h.elim | skip
      · next ws ss =>
        obtain ⟨t1, t2⟩ := three_mem g.1 (by have := g.2.1; omega)
        show Sp.resV ss (.str Sp.hole) (.str x) = if x ∈ ws then .str Sp.hole else .str x
        unfold Sp.resV
        rw [inV_txt]
        have i : x ∈ ss ↔ x ∈ ws := (Qs.asc_mem h x).trans (t2 x)
        by_cases m : x ∈ ws
        · rw [if_pos m, decide_eq_true (i.mpr m)]
          rfl
        · rw [if_neg m, decide_eq_false (fun z => m (i.mp z))]
          rfl
      · next ws ss =>
        obtain ⟨t1, t2⟩ := three_mem g.1 (by have := g.2.1; omega)
        show Sp.resV ss .non (.str x) = if x ∈ ws then .non else .str x
        unfold Sp.resV
        rw [inV_txt]
        have i : x ∈ ss ↔ x ∈ ws := (Qs.asc_mem h x).trans (t2 x)
        by_cases m : x ∈ ws
        · rw [if_pos m, decide_eq_true (i.mpr m)]
          rfl
        · rw [if_neg m, decide_eq_false (fun z => m (i.mp z))]
          rfl
      · next ps qs =>
        show Sw.resW qs (.str x) = Sw.resW ps (.str x)
        rw [res_get g.2.2.2 h, resW_get]
      · next es kk ss ks =>
        obtain ⟨t1, t2⟩ := three_mem g.1 g.2.1
        show V.str (Sm.resS ss ks x) = V.str (Sm.dueS es kk x)
        rw [Sm.res_due (row := es) (left := kk) (fun y => (Qs.asc_mem h.1 y).trans (t2 y)) (fun y => Qs.asc_mem h.2 y) (fun e he => by have := end_txt e (g.2.2.1 e he); omega)]
theorem three_map (ws : List Str) : (List.replicate 3 (ws.map V.str)).flatten.take 3 = (three ws).map V.str := by
  unfold three
  rw [List.map_take, List.map_flatten, List.map_replicate]
theorem of_three {l : List Str} (h : l.length = 3) : ∃ x y z, l = [x, y, z] := match l, h with
  | [x, y, z], _ => ⟨x, y, z, rfl⟩
theorem strs_inj : ∀ {a b : List Str}, a.map V.str = b.map V.str → a = b
  | [], [], _ => rfl
  | x :: a, y :: b, h => by
    rw [List.map_cons, List.map_cons] at h
    obtain ⟨h1, h2⟩ := List.cons.inj h
    rw [V.str.inj h1, strs_inj h2]
  | [], _ :: _, h => nomatch h
  | _ :: _, [], h => nomatch h
theorem idx_none {α : Type} {p : α → Bool} {l : List α} (h : ∀ x ∈ l, p x = false) : l.findIdx? p = none := by
  rw [List.findIdx?_eq_none_iff]
  exact h
theorem due_stop {ts : List Str} (h1 : 1 ≤ ts.length) (h2 : ts.length ≤ 20) (h : ∀ x ∈ ts, wordS x = true) : Sp.dueX (ts.map V.str) = none := by
  unfold Sp.dueX
  rw [List.length_map, decide_eq_true (by omega), decide_eq_true (by omega), idx_none (fun v hv => ?_)]
  · rfl
  · obtain ⟨x, hx, rfl⟩ := List.mem_map.mp hv
    show (!wordV (.str x)) = false
    rw [show wordV (.str x) = true from h x hx]
    rfl
theorem due_stem {ts ks : List Str} (h1 : 1 ≤ ts.length) (h2 : ts.length ≤ 8) (h : ∀ x ∈ ts, endingV (.str x) = true) (k1 : ks.length ≤ 20) (k2 : ∀ x ∈ ks, wordS x = true) : Sm.dueX (ts.map V.str) (some (ks.map V.str)) = none := by
  have ko : keepOk (some (ks.map V.str)) = true := by
    show (decide ((ks.map V.str).length ≤ 20) && (ks.map V.str).all wordV) = true
    rw [List.length_map, decide_eq_true k1, Bool.true_and, List.all_map]
    exact List.all_eq_true.mpr fun x hx => k2 x hx
  unfold Sm.dueX
  rw [List.length_map, decide_eq_true (by omega), decide_eq_true (by omega), idx_none (fun v hv => ?_), ko]
  · rfl
  · obtain ⟨x, hx, rfl⟩ := List.mem_map.mp hv
    show (!endingV (.str x)) = false
    rw [h x hx]
    rfl
theorem mergeK_app : ∀ (kvs acc : List (Key × V)), ((acc ++ kvs).map (·.1)).Nodup → mergeK acc kvs = acc ++ kvs
  | [], acc, _ => (List.append_nil acc).symm
  | p :: r, acc, h => by
    have hn : valV acc p.1 = none := by
      cases e : valV acc p.1 with
      | none => rfl
      | some v =>
        have := valV_in e
        rw [List.map_append, List.map_cons, List.nodup_append] at h
        exact absurd rfl (h.2.2 p.1 this p.1 List.mem_cons_self)
    show mergeK (putK acc p.1 p.2) r = _
    rw [putK_new _ hn, mergeK_app r (acc ++ [p]) (by rw [List.append_assoc]; exact h), List.append_assoc]
    rfl
structure Makers (P : Program) (w : World) (K : PySem.W.Frag) (mg : Str → Option Value) (base : Heap) (c : C4) (CE : Addr) : Prop where
  s : ∃ f, Mk K c.S f ∧ FnR P w K mg base (L2.CX P w) 4 f (Sp.spInitS K c.S CE)
  d : ∃ f, Mk K c.D f ∧ FnR P w K mg base (L2.CX P w) 5 f (Sp.spInitDrop K c.D CE)
  m : ∃ f, Mk K c.M f ∧ FnRK P w K mg base (L2.CX P w) 5 f "keep" (Sm.spInitK K c.M CE)
  o : ∃ mc p g, CRead K c.W mc ∧ CMet K c.W mc "of" p g ∧ FnR P w K mg base (L2.CX P w) 6 g (Sw.spOf K w c.W CE)
  gS : mg "Stop" = some (.ref c.S)
  gD : mg "Drop" = some (.ref c.D)
  gW : mg "Swap" = some (.ref c.W)
  gM : mg "Stem" = some (.ref c.M)
def spMadeStep (c : C4) : Sp := fun vs G Q _ => ∃ (a : Addr) (lp : LP), vs = [.ref a] ∧ lp.at G a ∧ lp.good ∧ ∀ x s G', G x = none → Same G G' → MadeOf lp s → s.at c G' x → Q (.ref x) G'
abbrev msN : List Str := ["_law_plain", "_law_sort", "_law_row", "_law_left", "_law_one", "_law_two", "_law_three"]
section
variable {P : Program} {w : World} {K : PySem.W.Frag} {mg : Str → Option Value} {base : Heap}
theorem scMadeStep : FnScope msN ["_law_plain"] (defScope sMadeStep) := ⟨rfl, rfl, rfl, by decide +kernel, rfl, by decide +kernel, by decide +kernel⟩
theorem ok_madeStep {c : C4} {CE : Addr} (D : DefIn K mg "_law_made_step" sMadeStep) (B : Blt mg) (M : Makers P w K mg base c CE) : Ok P w K mg base "_law_made_step" (defArgs sMadeStep) ["_law_plain"] 8 (spMadeStep c) := by
  obtain ⟨⟨fS, MS, FS⟩, ⟨fD, MD, FD⟩, ⟨fM, MM, FM⟩, ⟨mc, pO, gO, cr, cm, FO⟩, gS, gD, gW, gM⟩ := M
  refine D.ok scMadeStep (fun vs G Q E h => ?_) (fun _ _ _ _ _ _ us hl => match us, hl with | [_], _ => rfl) (fun f cdv A out t G vs Q E hr h => ?_)
  · obtain ⟨a, lp, rfl, _⟩ := h
    rfl
  · obtain ⟨a, lp, rfl, ⟨r, l, h1, h2⟩, good, k⟩ := h
    refine ⟨_, (pss_cons (ps_asg (pv 0) (pg_tup rfl (pgs_cons (pg_name (i := 1) scMadeStep.nd rfl (by first | exact Or.inl rfl | exact Or.inr rfl)) (pgs_cons (pg_name (i := 2) scMadeStep.nd rfl (by first | exact Or.inl rfl | exact Or.inr rfl)) (pgs_cons (pg_name (i := 3) scMadeStep.nd rfl (by first | exact Or.inl rfl | exact Or.inr rfl)) pgs_nil)))))
    (pss_cons (ps_if (pt_cmpR op_eq (pv 1) pe_str (nomark _)) (pss_one (ps_ret (pe_cmethT (pe_glob (v := .ref c.W) rfl gW rfl) cr cm FO (hr.mono (by decide)) takes0 (pa_cons (pe_callTy (call_dictP rfl) (by rfl) B.n_dict bt_dict (pa_cons (pv 2) pa_nil)) pa_nil)))) pss_nil)
    (pss_cons (ps_asg (pe_slice sl_list (pe_op on_rep (pv 2) pe_int) po_none (po_some pe_int)) (pg_lst rfl (pgs_cons (pg_name (i := 4) scMadeStep.nd rfl (by first | exact Or.inl rfl | exact Or.inr rfl)) (pgs_cons (pg_name (i := 5) scMadeStep.nd rfl (by first | exact Or.inl rfl | exact Or.inr rfl)) (pgs_cons (pg_name (i := 6) scMadeStep.nd rfl (by first | exact Or.inl rfl | exact Or.inr rfl)) pgs_nil)))))
    (pss_cons (ps_if (pt_cmpR op_eq (pv 1) pe_str (nomark _)) (pss_one (ps_ret (pe_makeS MS FS (hr.mono (by decide)) takes0 gS (pa_cons (pv 4) (pa_cons (pv 5) (pa_cons (pv 6) pa_nil)))))) pss_nil)
    (pss_cons (ps_if (pt_cmpR op_eq (pv 1) pe_str (nomark _)) (pss_one (ps_ret (pe_makeS MD FD (hr.mono (by decide)) takes0 gD (pa_cons (pv 4) (pa_cons (pv 5) (pa_cons (pv 6) pa_nil)))))) pss_nil)
    (pss_one (ps_ret (pe_makeSK MM FM (hr.mono (by decide)) takes0 gM (pa_cons (pv 4) (pa_cons (pv 5) (pa_cons (pv 6) pa_nil))) (pk_cons (pv 3) pk_nil))))))))), ?_⟩
    refine ⟨_, rfl, a, _, rfl, SqT.of h1, rfl, _, _, rfl, _, _, rfl, _, _, rfl, rfl, ?_⟩
    -- the three
    have sl3 : ∀ (ws : List Str), G r = some (.lst (ws.map V.str)) → 1 ≤ ws.length → ws.length ≤ 3 → ∃ x y z, three ws = [x, y, z] ∧ ∀ xs, xs = [V.str x, .str y, .str z] → (cutV (List.replicate (Int.toNat 3) (ws.map V.str)).flatten none (some 3)) = xs := fun ws _ w1 w2 => by
      obtain ⟨x, y, z, e⟩ := of_three (three_mem w1 w2).1
      refine ⟨x, y, z, e, fun xs hxs => ?_⟩
      show cutV (List.replicate 3 (ws.map V.str)).flatten none (some ((3 : Nat) : Int)) = xs
      rw [cut_take, three_map, e, hxs]
      rfl
    cases lp with
    | stop ws =>
      obtain ⟨g1, g2, g3⟩ := good
      obtain ⟨hr2, hl2⟩ := h2
      obtain ⟨x, y, z, e, hc⟩ := sl3 ws hr2 g1 (by omega)
      have mem : ∀ q ∈ [x, y, z], q ∈ poolS := fun q hq => g3 q (((three_mem g1 (by omega)).2 q).mp (e ▸ hq))
      refine ⟨_, rfl, rfl, _, rfl, iteF ?_⟩
      refine ⟨_, rfl, r, 3, _, rfl, rfl, hr2, by decide, by decide, by rw [List.length_map]; exact big_line (by show ws.length * 3 ≤ 1000000; omega), fun L3 G3 n3 s3 e3 => ⟨_, rfl, L3, _, rfl, SqL.of e3, fun L4 h4 => ?_⟩⟩
      rw [hc _ rfl]
      refine ⟨L4, _, rfl, SqL.of upd_same, rfl, _, _, rfl, _, _, rfl, _, _, rfl, rfl, ?_⟩
      have s4 : Same G (L2.upd G3 L4 (.lst [V.str x, .str y, .str z])) := s3.trans (Same.new h4)
      refine ⟨_, rfl, rfl, _, rfl, iteT ?_⟩
      have due : Sp.dueX ([x, y, z].map V.str) = none := due_stop (by show 1 ≤ 3; decide) (by show 3 ≤ 20; decide) fun q hq => (pool_txt q (mem q hq)).2.2
      refine ⟨_, rfl, _, rfl, _, rfl, fun o dx ho hdx ne => Sp.Made.want (xs := [x, y, z].map V.str) ⟨fun v hv G' _ => ?_, (by show 3 ≤ 1000; decide), fun rs i hd => (by rw [due] at hd; cases hd), fun ts hd hts o ss G' no so hat asc => ?_⟩ o dx ho hdx ne⟩
      · obtain ⟨q, hq, rfl⟩ := List.mem_map.mp hv
        exact .inl ⟨q, rfl, by have := (pool_txt q (mem q hq)).2.1; omega⟩
      · obtain rfl := strs_inj hts
        rw [← e] at asc
        exact k o (.stop ss) G' (s4.free no) (s4.trans so) asc hat
    | drop ws =>
      obtain ⟨g1, g2, g3⟩ := good
      obtain ⟨hr2, hl2⟩ := h2
      obtain ⟨x, y, z, e, hc⟩ := sl3 ws hr2 g1 (by omega)
      have mem : ∀ q ∈ [x, y, z], q ∈ poolS := fun q hq => g3 q (((three_mem g1 (by omega)).2 q).mp (e ▸ hq))
      refine ⟨_, rfl, rfl, _, rfl, iteF ?_⟩
      refine ⟨_, rfl, r, 3, _, rfl, rfl, hr2, by decide, by decide, by rw [List.length_map]; exact big_line (by show ws.length * 3 ≤ 1000000; omega), fun L3 G3 n3 s3 e3 => ⟨_, rfl, L3, _, rfl, SqL.of e3, fun L4 h4 => ?_⟩⟩
      rw [hc _ rfl]
      refine ⟨L4, _, rfl, SqL.of upd_same, rfl, _, _, rfl, _, _, rfl, _, _, rfl, rfl, ?_⟩
      have s4 : Same G (L2.upd G3 L4 (.lst [V.str x, .str y, .str z])) := s3.trans (Same.new h4)
      refine ⟨_, rfl, rfl, _, rfl, iteF ?_⟩
      refine ⟨_, rfl, rfl, _, rfl, iteT ?_⟩
      have due : Sp.dueX ([x, y, z].map V.str) = none := due_stop (by show 1 ≤ 3; decide) (by show 3 ≤ 20; decide) fun q hq => (pool_txt q (mem q hq)).2.2
      refine ⟨_, rfl, _, rfl, _, rfl, fun o dx ho hdx ne => Sp.Made.wantDrop (xs := [x, y, z].map V.str) ⟨fun v hv G' _ => ?_, (by show 3 ≤ 1000; decide), fun rs i hd => (by rw [due] at hd; cases hd), fun ts hd hts o ss G' no so hat asc => ?_⟩ o dx ho hdx ne⟩
      · obtain ⟨q, hq, rfl⟩ := List.mem_map.mp hv
        exact .inl ⟨q, rfl, by have := (pool_txt q (mem q hq)).2.1; omega⟩
      · obtain rfl := strs_inj hts
        rw [← e] at asc
        exact k o (.drop ss) G' (s4.free no) (s4.trans so) asc hat
    | swap ps =>
      obtain ⟨⟨as, hr2, hpa⟩, hl2⟩ := h2
      obtain ⟨g1, g2, g3, g4⟩ := good
      have em : mergeK [] (ps.map kvS) = ps.map kvS := by
        have := mergeK_app (ps.map kvS) [] (by rw [List.nil_append]; exact kvs_nd g4)
        rw [this, List.nil_append]
      refine ⟨_, rfl, rfl, _, rfl, iteT ?_⟩
      refine ⟨rfl, _, rfl, r, as, ps.map kvS, rfl, SqL.of hr2, pairs_paired hpa, fun D0 hD => ?_⟩
      rw [em]
      have isz : Sw.inSize (ps.map kvS).length = true := by
        rw [List.length_map]
        unfold Sw.inSize
        rw [decide_eq_true (by omega), decide_eq_true (by omega)]
        rfl
      have kvw : ∀ e ∈ ps.map kvS, Sw.kvWord e = true := fun e he => by
        obtain ⟨p, hp, rfl⟩ := List.mem_map.mp he
        obtain ⟨m1, m2⟩ := g3 p hp
        show (wordV (.str p.1) && wordV (.str p.2)) = true
        rw [show wordV (.str p.1) = true from (pool_txt _ m1).2.2, show wordV (.str p.2) = true from (pool_txt _ m2).2.2]
        rfl
      refine ⟨.ref D0, rfl, .inr (.inr ⟨D0, ps.map kvS, rfl, upd_same, fun e he G' _ => ?_, fun hh => (by rw [isz] at hh; cases hh), fun _ hh => absurd kvw hh, fun _ _ qs o G' sp no so hat => k o (.swap qs) G' ((Same.new hD).free no) ((Same.new hD).trans so) sp hat⟩)⟩
      obtain ⟨p, hp, rfl⟩ := List.mem_map.mp he
      obtain ⟨m1, m2⟩ := g3 p hp
      exact ⟨.inl ⟨p.1, rfl, by have := (pool_txt _ m1).2.1; omega⟩, .inl ⟨p.2, rfl, by have := (pool_txt _ m2).2.1; omega⟩⟩
    | stem es kk =>
      obtain ⟨g1, g2, g3, g4, g5⟩ := good
      obtain ⟨hr2, hl2⟩ := h2
      obtain ⟨x, y, z, e, hc⟩ := sl3 es hr2 g1 g2
      have mem : ∀ q ∈ [x, y, z], q ∈ endS := fun q hq => g3 q (((three_mem g1 g2).2 q).mp (e ▸ hq))
      refine ⟨_, rfl, rfl, _, rfl, iteF ?_⟩
      refine ⟨_, rfl, r, 3, _, rfl, rfl, hr2, by decide, by decide, by rw [List.length_map]; exact big_line (by show es.length * 3 ≤ 1000000; omega), fun L3 G3 n3 s3 e3 => ⟨_, rfl, L3, _, rfl, SqL.of e3, fun L4 h4 => ?_⟩⟩
      rw [hc _ rfl]
      refine ⟨L4, _, rfl, SqL.of upd_same, rfl, _, _, rfl, _, _, rfl, _, _, rfl, rfl, ?_⟩
      have s4 : Same G (L2.upd G3 L4 (.lst [V.str x, .str y, .str z])) := s3.trans (Same.new h4)
      refine ⟨_, rfl, rfl, _, rfl, iteF ?_⟩
      refine ⟨_, rfl, rfl, _, rfl, iteF ?_⟩
      have due : Sm.dueX ([x, y, z].map V.str) (some (kk.map V.str)) = none := due_stem (by show 1 ≤ 3; decide) (by show 3 ≤ 8; decide) (fun q hq => (end_txt q (mem q hq)).2.2.2) (by omega) fun q hq => (pool_txt q (g5 q hq)).2.2
      refine ⟨_, rfl, _, rfl, _, rfl, _, rfl, _, rfl, fun o dx ho hdx ne => Sm.Made.want (xs := [x, y, z].map V.str) (ko := some (kk.map V.str)) ⟨fun v hv G' _ => ?_, (by show 3 ≤ 1000; decide), fun G' sG => ⟨l, rfl, .inl (SqL.of (sG _ _ (s4 _ _ hl2))), by rw [List.length_map]; omega, fun v hv => ?_⟩, fun rs i hd => (by rw [due] at hd; cases hd), fun ts ks hd hts hks o ss kk2 G' no so hat asc asc2 => ?_⟩ o dx ho hdx ne⟩
      · obtain ⟨q, hq, rfl⟩ := List.mem_map.mp hv
        exact .inl ⟨q, rfl, by have := (end_txt q (mem q hq)).2.1; omega⟩
      · obtain ⟨q, hq, rfl⟩ := List.mem_map.mp hv
        exact fun _ _ => .inl ⟨q, rfl, by have := (pool_txt q (g5 q hq)).2.1; omega⟩
      · obtain rfl := strs_inj hts
        obtain rfl := strs_inj (Option.some.inj hks)
        rw [← e] at asc
        exact k o (.stem ss kk2) G' (s4.free no) (s4.trans so) ⟨asc, asc2⟩ hat
end
end K07
set_option Elab.async false
set_option linter.all false
set_option maxRecDepth 100000
set_option maxHeartbeats 8000000
namespace K07
open PySem PySem.Spec PyProof.Rows L2 TL Qh Qi Ql ClX Qmk Qmg Qde Qtb Qtd RT Qcm Qop
abbrev sLawChain : Stmt := top 90
abbrev sLawWords : Stmt := top 91
abbrev sByStep : Stmt := top 92
def MadeAll : List LP → List WS → Prop
  | [], [] => True
  | lp :: ls, s :: ss => MadeOf lp s ∧ MadeAll ls ss
  | _, _ => False
theorem MadeAll.len : ∀ {ls : List LP} {ss : List WS}, MadeAll ls ss → ls.length = ss.length
  | [], [], _ => rfl
  | _ :: ls, _ :: ss, h => congrArg (· + 1) (MadeAll.len (ls := ls) (ss := ss) h.2)
  | [], _ :: _, h => h.elim
  | _ :: _, [], h => h.elim
theorem MadeAll.one : ∀ {ls : List LP} {ss tt : List WS}, MadeAll ls ss → MadeAll ls tt → ss = tt
  | [], [], [], _, _ => rfl
  | _ :: ls, s :: ss, t :: tt, h, k => by rw [h.1.one k.1, MadeAll.one (ls := ls) h.2 k.2]
  | [], _ :: _, _, h, _ => h.elim
  | _ :: _, [], _, h, _ => h.elim
  | [], [], _ :: _, _, k => k.elim
  | _ :: _, _ :: _, [], _, k => k.elim
theorem MadeAll.snoc {lp : LP} {s : WS} : ∀ {ls : List LP} {ss : List WS}, MadeAll ls ss → MadeOf lp s → MadeAll (ls ++ [lp]) (ss ++ [s])
  | [], [], _, h => ⟨h, True.intro⟩
  | _ :: ls, _ :: ss, h0, h => ⟨h0.1, MadeAll.snoc (ls := ls) (ss := ss) h0.2 h⟩
  | [], _ :: _, h0, _ => h0.elim
  | _ :: _, [], h0, _ => h0.elim
theorem MadeAll.app : ∀ {ls ms : List LP} {ss tt : List WS}, MadeAll ls ss → MadeAll ms tt → MadeAll (ls ++ ms) (ss ++ tt)
  | [], _, [], _, _, h => h
  | _ :: ls, _, _ :: ss, _, h1, h2 => ⟨h1.1, MadeAll.app (ls := ls) (ss := ss) h1.2 h2⟩
  | [], _, _ :: _, _, h, _ => h.elim
  | _ :: _, _, [], _, h, _ => h.elim
theorem MadeAll.any : ∀ {ls : List LP} {ss : List WS}, MadeAll ls ss → (∀ lp ∈ ls, lp.good) → ∀ s ∈ ss, Any s
  | [], [], _, _ => fun s h => nomatch h
  | lp :: ls, s :: ss, h, g => fun t ht => by
    rcases List.mem_cons.mp ht with rfl | ht
    · exact h.1.any (g lp List.mem_cons_self)
    · exact MadeAll.any (ls := ls) (ss := ss) h.2 (fun q hq => g q (List.mem_cons_of_mem _ hq)) t ht
  | [], _ :: _, h, _ => h.elim
  | _ :: _, [], h, _ => h.elim
theorem MadeAll.res : ∀ {ls : List LP} {ss : List WS}, MadeAll ls ss → (∀ lp ∈ ls, lp.good) → ∀ {v : V}, wv v → resAll ss v = lresAll ls v
  | [], [], _, _, _, _ => rfl
  | lp :: ls, s :: ss, h, g, v, hv => by
    show resAll ss (s.res v) = lresAll ls (lp.res v)
    rw [h.1.res (g lp List.mem_cons_self) hv]
    exact MadeAll.res (ls := ls) (ss := ss) h.2 (fun q hq => g q (List.mem_cons_of_mem _ hq)) (LP.res_wv (g lp List.mem_cons_self) hv)
  | [], _ :: _, h, _, _, _ => h.elim
  | _ :: _, [], h, _, _, _ => h.elim
theorem MadeAll.stems : ∀ {ls : List LP} {ss : List WS}, MadeAll ls ss → (ss.filter (·.isM)).length = (ls.filter (·.isM)).length
  | [], [], _ => rfl
  | lp :: ls, s :: ss, h => by
    rw [List.filter_cons, List.filter_cons, h.1.isM]
    have ih := MadeAll.stems (ls := ls) (ss := ss) h.2
    cases lp.isM with
    | true => simp [ih]
    | false => simp [ih]
  | [], _ :: _, h => h.elim
  | _ :: _, [], h => h.elim
theorem one_split : ∀ ss : List WS, (ss.filter (·.isM)).length ≤ 1 → (∀ s ∈ ss, s.isM = false) ∨ ∃ pre m post, ss = pre ++ m :: post ∧ m.isM = true ∧ (∀ s ∈ pre, s.isM = false) ∧ ∀ s ∈ post, s.isM = false
  | [], _ => .inl fun s h => nomatch h
  | s :: ss, h => by
    rw [List.filter_cons] at h
    cases e : s.isM with
    | true =>
      rw [e, if_pos rfl, List.length_cons] at h
      have : ss.filter (·.isM) = [] := List.length_eq_zero_iff.mp (by omega)
      refine .inr ⟨[], s, ss, rfl, e, (fun t ht => nomatch ht), fun t ht => ?_⟩
      have := List.filter_eq_nil_iff.mp this t ht
      simpa using this
    | false =>
      rw [e, if_neg Bool.false_ne_true] at h
      rcases one_split ss h with h | ⟨pre, m, post, rfl, hm, h1, h2⟩
      · refine .inl fun t ht => ?_
        rcases List.mem_cons.mp ht with rfl | ht
        · exact e
        · exact h t ht
      · refine .inr ⟨s :: pre, m, post, rfl, hm, fun t ht => ?_, h2⟩
        rcases List.mem_cons.mp ht with rfl | ht
        · exact e
        · exact h1 t ht
theorem MadeAll.shape {ls : List LP} {ss : List WS} (h : MadeAll ls ss) (g : ∀ lp ∈ ls, lp.good) (o : LOne ls) : Shape ss := ⟨h.any g, one_split ss (by rw [h.stems]; exact o)⟩
theorem LOne.left {a b : List LP} (h : LOne (a ++ b)) : LOne a := by
  unfold LOne at h ⊢
  rw [List.filter_append, List.length_append] at h
  omega
theorem LOne.right {a b : List LP} (h : LOne (a ++ b)) : LOne b := by
  unfold LOne at h ⊢
  rw [List.filter_append, List.length_append] at h
  omega
structure OrM (P : Program) (w : World) (K : PySem.W.Frag) (mg : Str → Option Value) (base : Heap) (c : C4) (CC CT : Addr) : Prop where
  hc : PySem.W.selfFirst K CC = true
  or : ∃ g, PySem.W.findIn K (.ref CC) (PySem.dunder Operator.BitOr.info.2) = some (some (.ref g)) ∧ PySem.W.isFn K (.ref g) = true ∧ FnR P w K mg base (L2.CX P w) 8 g (spOr c CC CT)
  nS : noNumB K c.S Operator.BitOr.info.2 = true
  nD : noNumB K c.D Operator.BitOr.info.2 = true
  nW : noNumB K c.W Operator.BitOr.info.2 = true
  nM : noNumB K c.M Operator.BitOr.info.2 = true
  kc : KitC K c CC
  k : Kits K c
  ch : ∃ f, Mk K CC f ∧ FnR P w K mg base (L2.CX P w) 6 f (spChainI c CC CT)
  gC : mg "Chain" = some (.ref CC)
section
variable {P : Program} {w : World} {K : PySem.W.Frag} {mg : Str → Option Value} {base : Heap} {c : C4} {CC CT : Addr}
theorem OrM.no (O : OrM P w K mg base c CC CT) (s : WS) : s.cls c = CC ∨ (s.cls c ≠ CC ∧ noNumB K (s.cls c) Operator.BitOr.info.2 = true) := by
  have ne : s.cls c ≠ CC := fun e => by
    have h := O.kc.isC s
    rw [e, O.kc.cc] at h
    cases h
  refine .inr ⟨ne, ?_⟩
  cases s with
  | stop ws => exact O.nS
  | drop ws => exact O.nD
  | swap ps => exact O.nW
  | stem es kk => exact O.nM
theorem ChainAt.ins {G : Hp} {x : Addr} {ss : List WS} (h : ChainAt c CC CT G x ss) : ∃ dx fs, G x = some (.ins CC dx fs) := by
  obtain ⟨dx, S, T, as, v4, v5, v6, v7, h1, _⟩ := h
  exact ⟨dx, _, h1⟩
/-- chain | step -/
theorem OrM.step (O : OrM P w K mg base c CC CT) {G : Hp} {a b : Addr} {ss : List WS} {s : WS} {Q : VK} {E : XK} (ha : ChainAt c CC CT G a ss) (hb : s.at c G b) (sh : Shape (ss ++ [s])) (few : (ss ++ [s]).length ≤ 6)
    (k : ∀ x G', G x = none → Same G G' → ChainAt c CC CT G' x (ss ++ [s]) → Q (.ref x) G') : rOwnBin K CC Operator.BitOr.info.2 (spOr c CC CT) E (.ref a) (.ref b) G Q := by
  obtain ⟨dx, fs, h1⟩ := ha.ins
  exact ⟨a, dx, fs, s.cls c, rfl, h1, O.k.ty hb, O.no s, a, b, ss, [s], rfl, ha, .inr ⟨s, rfl, hb⟩, sh, few, fun x G' nx sx ch => ⟨⟨x, rfl⟩, k x G' nx sx ch⟩⟩
/-- chain | chain -/
theorem OrM.both (O : OrM P w K mg base c CC CT) {G : Hp} {a b : Addr} {ss tt : List WS} {Q : VK} {E : XK} (ha : ChainAt c CC CT G a ss) (hb : ChainAt c CC CT G b tt) (sh : Shape (ss ++ tt)) (few : (ss ++ tt).length ≤ 6)
    (k : ∀ x G', G x = none → Same G G' → ChainAt c CC CT G' x (ss ++ tt) → Q (.ref x) G') : rOwnBin K CC Operator.BitOr.info.2 (spOr c CC CT) E (.ref a) (.ref b) G Q := by
  obtain ⟨dx, fs, h1⟩ := ha.ins
  obtain ⟨dy, gs, h2⟩ := hb.ins
  exact ⟨a, dx, fs, CC, rfl, h1, O.kc.i.ty h2, .inl rfl, a, b, ss, tt, rfl, ha, .inl hb, sh, few, fun x G' nx sx ch => ⟨⟨x, rfl⟩, k x G' nx sx ch⟩⟩
theorem shape_nil : Shape [] := ⟨(fun s h => nomatch h), .inl (fun s h => nomatch h)⟩
/-- Chain() -/
theorem OrM.nil (O : OrM P w K mg base c CC CT) {G : Hp} {Q : VK} {E : XK} (k : ∀ x G', G x = none → Same G G' → ChainAt c CC CT G' x [] → Q (.ref x) G') : ∀ x dx, G x = none → G dx = none → dx ≠ x →
    spChainI c CC CT [.ref x] (L2.upd (L2.upd G dx (.own x)) x (.ins CC dx [])) (fun v H2 => v = .non ∧ Q (.ref x) H2) E := fun x dx hx hdx ne => chain_want (as := []) (ss := []) True.intro shape_nil (Nat.zero_le _) k x dx hx hdx ne
theorem OrM.nilT (O : OrM P w K mg base c CC CT) {σ : L2.St} {G : Hp} {Q : VK} (k : ∀ x G', G x = none → Same G G' → ChainAt c CC CT G' x [] → Q (.ref x) G') : tMakeS CC (spChainI c CC CT) (WE fun _ _ _ _ => False) tNil σ G Q := fun x dx hx hdx ne => chain_want (as := []) (ss := []) True.intro shape_nil (Nat.zero_le _) k x dx hx hdx ne
def spLawChain (c : C4) (CC CT : Addr) : Sp := fun vs G Q _ => ∃ (F : Addr → Prop) (L : Addr) (as : List Addr) (ls : List LP), vs = [.ref L] ∧ G L = some (.lst (as.map V.ref)) ∧ LsAt F G as ls ∧ (∀ lp ∈ ls, lp.good) ∧ LOne ls ∧ ls.length ≤ 5 ∧
  ∀ x ss G', G x = none → Same G G' → MadeAll ls ss → ChainAt c CC CT G' x ss → Q (.ref x) G'
theorem scLawChain : FnScope ["_law_line_so", "_law_made", "_law_plain"] ["_law_line_so"] (defScope sLawChain) := ⟨rfl, rfl, rfl, by decide +kernel, rfl, by decide +kernel, by decide +kernel⟩
theorem ok_lawChain (D : DefIn K mg "_law_chain" sLawChain) (O : OrM P w K mg base c CC CT) (F_made : Ok P w K mg base "_law_made_step" (defArgs sMadeStep) ["_law_plain"] 8 (spMadeStep c)) : Ok P w K mg base "_law_chain" (defArgs sLawChain) ["_law_line_so"] 9 (spLawChain c CC CT) := by
  obtain ⟨fC, MC, FC⟩ := O.ch
  obtain ⟨g, og1, og2, FO⟩ := O.or
  refine D.ok scLawChain (fun vs G Q E h => ?_) (fun _ _ _ _ _ _ us hl => match us, hl with | [_], _ => rfl) (fun f cdv A out t G vs Q E hr h => ?_)
  · obtain ⟨F, L, as, ls, rfl, _⟩ := h
    rfl
  · obtain ⟨F, L, as, ls, rfl, hL, hls, good, one, few, k⟩ := h
    refine ⟨_, (pss_cons (ps_set (i := 1) scLawChain.nd rfl (by first | exact Or.inl rfl | exact Or.inr rfl) (pe_makeS0 MC FC (hr.mono (by decide)) takes0 O.gC))
    (pss_cons (ps_for (passes_of rfl) rfl (pi_list (pv 0)) (pg_name (i := 2) scLawChain.nd rfl (by first | exact Or.inl rfl | exact Or.inr rfl))
      (pss_one (ps_set (i := 1) scLawChain.nd rfl (by first | exact Or.inl rfl | exact Or.inr rfl) (pe_op (op_ownBin (op := .BitOr) O.hc og1 og2 FO (hr.mono (by decide)) passL) (pv 1) (pe_own F_made (hr.mono (by decide)) takes0 (pa_cons (pv 2) pa_nil))))))
    (pss_one (ps_ret (pv 1))))), ?_⟩
    have al := hls.len
    refine OrM.nilT O (Q := fun v H1 => gName 1 v _ H1 _) fun x0 G1 n1 s1 ch1 => ?_
    refine ⟨_, rfl, L, rfl, ⟨_, SqL.of (s1 _ _ hL)⟩, for_it walk_list (fun i σ' G' => ∃ x ss o2, σ' = [some (.ref L), some (.ref x), o2] ∧ Same G G' ∧ G x = none ∧ MadeAll (ls.take i) ss ∧ ChainAt c CC CT G' x ss) ⟨x0, [], none, rfl, s1, n1, True.intro, ch1⟩ (fun i σ' G' _ ⟨_, _, _, _, sm, _⟩ => SqL.of (sm _ _ hL)) ?_ ?_⟩
    · rintro i y σ1 G2 G3 hi ⟨x, ss, o2, rfl, sm, nx, ma, ch⟩ ⟨rfl, hy⟩
      obtain ⟨a, ha, rfl⟩ := map_at hy
      obtain ⟨lp, hlp, hat⟩ := hls.get ha
      have ti := take_get hlp
      have few2 : (ls.take (i + 1)).length ≤ 5 := by rw [List.length_take]; omega
      refine ⟨_, rfl, _, rfl, a, lp, rfl, LP.at.same hat.at sm, good lp (List.mem_of_getElem? hlp), fun b s G4 nb s4 ms hb => ?_⟩
      have ma2 : MadeAll (ls.take (i + 1)) (ss ++ [s]) := by
        rw [ti]
        exact ma.snoc ms
      have one2 : LOne (ls.take (i + 1)) := by
        have : LOne (ls.take (i + 1) ++ ls.drop (i + 1)) := by rw [List.take_append_drop]; exact one
        exact this.left
      refine O.step (ch.same s4) hb (ma2.shape (fun q hq => good q (List.mem_of_mem_take hq)) one2) (by rw [← ma2.len]; omega) fun z G5 nz s5 ch5 => ?_
      exact ⟨z, ss ++ [s], some (.ref a), rfl, sm.trans (s4.trans s5), sm.free (s4.free nz), ma2, ch5⟩
    · rintro σ1 G2 ⟨x, ss, o2, rfl, sm, nx, ma, ch⟩
      rw [List.length_map, al, List.take_length] at ma
      exact ⟨_, rfl, k x ss G2 nx sm ma ch⟩
def spBy : Sp := fun vs G Q _ => ∃ (F : Addr → Prop) (L : Addr) (as : List Addr) (ls : List LP) (v : V), vs = [.ref L, v] ∧ G L = some (.lst (as.map V.ref)) ∧ LsAt F G as ls ∧ (∀ lp ∈ ls, lp.good) ∧ wv v ∧ ∀ G', Same G G' → Q (lresAll ls v) G'
theorem scBy : FnScope ["_law_line_so", "_law_thing", "_law_plain"] ["_law_line_so", "_law_thing"] (defScope sByStep) := ⟨rfl, rfl, rfl, by decide +kernel, rfl, by decide +kernel, by decide +kernel⟩
theorem ok_by (D : DefIn K mg "_law_by_steps" sByStep) (R : Res P w K mg base c) (F_made : Ok P w K mg base "_law_made_step" (defArgs sMadeStep) ["_law_plain"] 8 (spMadeStep c)) : Ok P w K mg base "_law_by_steps" (defArgs sByStep) ["_law_line_so", "_law_thing"] 9 spBy := by
  refine D.ok scBy (fun vs G Q E h => ?_) (fun _ _ _ _ _ _ us hl => match us, hl with | [_, _], _ => rfl) (fun f cdv A out t G vs Q E hr h => ?_)
  · obtain ⟨F, L, as, ls, v, rfl, _⟩ := h
    rfl
  · obtain ⟨F, L, as, ls, v, rfl, hL, hls, good, hv, k⟩ := h
    refine ⟨_, (pss_cons (ps_for (passes_of rfl) rfl (pi_list (pv 0)) (pg_name (i := 2) scBy.nd rfl (by first | exact Or.inl rfl | exact Or.inr rfl))
      (pss_one (ps_set (i := 1) scBy.nd rfl (by first | exact Or.inl rfl | exact Or.inr rfl) (pe_methD (P := P) (w := w) (K := K) (mg := mg) (base := base) (k := 1) ⟨rfl, rfl, rfl, rfl, rfl⟩ (pe_own F_made (hr.mono (by decide)) takes0 (pa_cons (pv 2) pa_nil)) (hr.mono (by decide)) takes0 (pa_cons (pv 1) pa_nil)))))
    (pss_one (ps_ret (pv 1)))), ?_⟩
    have al := hls.len
    refine ⟨_, rfl, L, rfl, ⟨_, SqL.of hL⟩, for_it walk_list (fun i σ' G' => ∃ o2, σ' = [some (.ref L), some (lresAll (ls.take i) v), o2] ∧ Same G G') ⟨none, rfl, Same.refl G⟩ (fun i σ' G' _ ⟨_, _, sm⟩ => SqL.of (sm _ _ hL)) ?_ ?_⟩
    · rintro i y σ1 G1 G2 hi ⟨o2, rfl, sm⟩ ⟨rfl, hy⟩
      obtain ⟨a, ha, rfl⟩ := map_at hy
      obtain ⟨lp, hlp, hat⟩ := hls.get ha
      have lg := good lp (List.mem_of_getElem? hlp)
      have wv1 : wv (lresAll (ls.take i) v) := lresAll_wv (fun q hq => good q (List.mem_of_mem_take hq)) hv
      refine ⟨_, rfl, a, lp, rfl, LP.at.same hat.at sm, lg, fun b s G4 nb s4 ms hb => ?_⟩
      obtain ⟨sp, hM, hsp⟩ := R.get s
      obtain ⟨d, fs, i1, i2⟩ := WS.ins hb
      refine ⟨s.cls c, sp, b, d, fs, hM, rfl, i1, i2, _, rfl, hsp b G4 _ _ _ hb (ms.any lg).1 wv1 fun G5 s5 => ⟨some (.ref a), ?_, sm.trans (s4.trans s5)⟩⟩
      rw [ms.res lg wv1]
      show [some (.ref L), some (lp.res (lresAll (ls.take i) v)), some (.ref a)] = _
      rw [take_get hlp]
      unfold lresAll
      rw [List.foldl_append]
      rfl
    · rintro σ1 G1 ⟨o2, rfl, sm⟩
      rw [List.length_map, al, List.take_length]
      exact ⟨_, rfl, k G1 sm⟩
end
end K07
set_option Elab.async false
set_option linter.all false
set_option maxRecDepth 100000
set_option maxHeartbeats 8000000
namespace K07
open PySem PySem.Spec PyProof.Rows L2 TL Qh Qi Ql ClX Qmk Qmg Qde Qtb Qtd RT Qcm Qop
/-! words put together -/
theorem word_iff {x : Str} : wordS x = true ↔ 1 ≤ x.length ∧ x.length ≤ 10 ∧ ∀ c ∈ x.cps.toList, ltr c = true := by
  unfold wordS lettersS
  rw [Bool.and_eq_true, Bool.and_eq_true, List.all_eq_true, decide_eq_true_iff, decide_eq_true_iff]
  constructor
  · rintro ⟨⟨h1, h2⟩, h3⟩
    exact ⟨by omega, by omega, h3⟩
  · rintro ⟨h1, h2, h3⟩
    exact ⟨⟨by omega, by omega⟩, h3⟩
theorem cps_app (x y : Str) : (x ++ y).cps.toList = x.cps.toList ++ y.cps.toList := by
  show (x.cps ++ y.cps).toList = _
  exact Array.toList_append
theorem letters_txt {x : Str} (h : ∀ c ∈ x.cps.toList, ltr c = true) : txt x = true := by
  unfold txt
  rw [← Array.all_toList, List.all_eq_true]
  intro c hc
  have := h c hc
  unfold ltr at this
  rw [Bool.and_eq_true, decide_eq_true_iff, decide_eq_true_iff] at this
  exact decide_eq_true (by omega)
theorem word_txt {x : Str} (h : wordS x = true) : txt x = true := letters_txt (word_iff.mp h).2.2
theorem word_app {x y : Str} (hx : wordS x = true) (hy : ∀ c ∈ y.cps.toList, ltr c = true) (h : x.length + y.length ≤ 10) : wordS (x ++ y) = true := by
  obtain ⟨a, b, c⟩ := word_iff.mp hx
  refine word_iff.mpr ⟨by rw [add_len]; omega, by rw [add_len]; omega, fun d hd => ?_⟩
  rw [cps_app] at hd
  rcases List.mem_append.mp hd with hd | hd
  · exact c d hd
  · exact hy d hd
def pieceS : List Str := [Str.ofString "s", Str.ofString "es", Str.ofString "e", Str.ofString "bes", Str.ofString "n", Str.ofString "q"]
theorem piece_ok : ∀ y ∈ pieceS, y.length ≤ 3 ∧ ∀ c ∈ y.cps.toList, ltr c = true := by
  have h : pieceS.all (fun y => decide (y.length ≤ 3) && y.cps.toList.all ltr) = true := by decide +kernel
  intro y hy
  have := List.all_eq_true.mp h y hy
  obtain ⟨a, b⟩ := Bool.and_eq_true_iff.mp this
  exact ⟨of_decide_eq_true a, fun c hc => List.all_eq_true.mp b c hc⟩
def oneS : List Str := [Str.ofString "b", Str.ofString "e", Str.ofString "s", Str.ofString "a"]
theorem one_ok : ∀ y ∈ oneS, y.length = 1 ∧ ∀ c ∈ y.cps.toList, ltr c = true := by
  have h : oneS.all (fun y => decide (y.length = 1) && y.cps.toList.all ltr) = true := by decide +kernel
  intro y hy
  have := List.all_eq_true.mp h y hy
  obtain ⟨a, b⟩ := Bool.and_eq_true_iff.mp this
  exact ⟨of_decide_eq_true a, fun c hc => List.all_eq_true.mp b c hc⟩
theorem sum_ones : ∀ {ys : List Str}, (∀ y ∈ ys, y.length = 1) → (ys.map (·.length)).sum = ys.length
  | [], _ => rfl
  | y :: ys, h => by
    rw [List.map_cons, List.sum_cons, h y List.mem_cons_self, sum_ones fun z hz => h z (List.mem_cons_of_mem _ hz), List.length_cons]
    omega
theorem glue_word {ys : List Str} (h : ∀ y ∈ ys, y ∈ oneS) (h1 : 1 ≤ ys.length) (h2 : ys.length ≤ 10) : wordS (Txt.join nothing ys) = true := by
  have e : (Txt.join nothing ys).length = ys.length := by rw [glue_len, sum_ones fun y hy => (one_ok y (h y hy)).1]
  refine word_iff.mpr ⟨by omega, by omega, fun c hc => ?_⟩
  have hc : c ∈ tl (Txt.join nothing ys) := hc
  rw [tl_glue] at hc
  obtain ⟨l, hl, hc⟩ := List.mem_flatten.mp hc
  obtain ⟨y, hy, rfl⟩ := List.mem_map.mp hl
  exact (one_ok y (h y hy)).2 c hc
def spWords : Sp := fun vs G Q _ => ∃ (p l : Addr) (c : Int), vs = [.ref p] ∧ Pen G p l c ∧ c ≤ 900000 ∧ ∀ (W : Addr) (ws : List Str) G', G W = none → (∀ x ∈ ws, wordS x = true) → ws.length = 17 → Kp p G G' → Pen G' p l (c + 40) → G' W = some (.lst (ws.map V.str)) → Q (.ref W) G'
abbrev wordsN : List Str := ["_law_pen_here", "_law_few", "_law_more", "_law_k"]
section
variable {P : Program} {w : World} {K : PySem.W.Frag} {mg : Str → Option Value} {base : Heap}
theorem scWords : FnScope wordsN ["_law_pen_here"] (defScope sLawWords) := ⟨rfl, rfl, rfl, by decide +kernel, rfl, by decide +kernel, by decide +kernel⟩
theorem ok_words (D : DefIn K mg "_law_words" sLawWords) (B : Blt mg) (F__law_draw : Ok P w K mg base "_law_draw" (defArgs sDraw) ["_law_pen_here", "_law_many"] 1 spDraw) (F__law_pick : Ok P w K mg base "_law_pick" (defArgs sPick) ["_law_pen_here", "_law_some_here"] 2 (spPick K))
    (F__law_pool : Ok P w K mg base "_law_pool" (defArgs sPool) [] 1 spPool) : Ok P w K mg base "_law_words" (defArgs sLawWords) ["_law_pen_here"] 3 spWords := by
  refine D.ok scWords (fun vs G Q E h => ?_) (fun _ _ _ _ _ _ us hl => match us, hl with | [_], _ => rfl) (fun f cdv A out t G vs Q E hr h => ?_)
  · obtain ⟨p, l, c, rfl, _⟩ := h
    rfl
  · obtain ⟨p, l, c, rfl, P0, hc, k⟩ := h
    refine ⟨_, (pss_cons (ps_set (i := 1) scWords.nd rfl (by first | exact Or.inl rfl | exact Or.inr rfl) (pe_own0 F__law_pool (hr.mono (by decide))))
    (pss_cons (ps_setLc (i := 2) (own := [("_law_k", 3)]) (tt := tYes) rfl scWords.nd rfl rfl (sw_true rfl rfl rfl (by decide +kernel)) (pi_range1 (by rfl) B.n_range (pa_cons pe_int pa_nil)) (blkOk_by (N := wordsN) (sc := defScope sLawWords) (by decide +kernel)) (fun _ _ _ _ _ => pg_name (i := 3) scWords.nd rfl (by first | exact Or.inl rfl | exact Or.inr rfl)) (fun _ _ _ _ _ => pts_nil) (fun _ _ _ _ _ => (pe_op op_add_str (pe_own F__law_pick (hr.mono (by decide)) takes0 (pa_cons (pv 0) (pa_cons (pv 1) pa_nil))) (pe_own F__law_pick (hr.mono (by decide)) takes0 (pa_cons (pv 0) (pa_cons (pn_lst (pa_cons pe_str (pa_cons pe_str (pa_cons pe_str (pa_cons pe_str (pa_cons pe_str (pa_cons pe_str pa_nil))))))) pa_nil))))))
    (pss_one (ps_ret (pe_op on_cat (pe_op on_cat (pv 1) (pv 2)) (pn_lst (pa_cons (pe_bm PySem.F.plainAttrs_str PySem.F.slot_str_join PySem.F.type_str_join mt_join pe_str (pa_cons (pe_lc (own := [("_law_k", 3)]) (tt := tYes) rfl scWords.nd (pi_range1 (by rfl) B.n_range (pa_cons (pe_op op_add pe_int (pe_own F__law_draw (hr.mono (by decide)) takes0 (pa_cons (pv 0) (pa_cons pe_int pa_nil)))) pa_nil)) (blkOk_by (N := wordsN) (sc := defScope sLawWords) (by decide +kernel)) (fun _ _ _ _ _ => pg_name (i := 3) scWords.nd rfl (by first | exact Or.inl rfl | exact Or.inr rfl)) (fun _ _ _ _ _ => pts_nil) (fun _ _ _ _ _ => (pe_own F__law_pick (hr.mono (by decide)) takes0 (pa_cons (pv 0) (pa_cons (pn_lst (pa_cons pe_str (pa_cons pe_str (pa_cons pe_str (pa_cons pe_str pa_nil))))) pa_nil))))) pa_nil)) pa_nil))))))), ?_⟩
    refine ⟨rfl, fun W1 G1 n1 s1 e1 => ?_⟩
    have P1 := P0.same s1
    have W1p := P0.ne n1
    refine ⟨8, rfl, by decide, by decide, fun M hM => ?_⟩
    have Mp := P1.ne hM
    refine lc_range (n := 8) (fun i G' => Kp p G1 G' ∧ Pen G' p l (c + 2 * i) ∧ ∃ ws : List Str, G' M = some (.lst (ws.map V.str)) ∧ ws.length = i ∧ ∀ x ∈ ws, wordS x = true) ⟨Kp.new hM, (P1.new hM).mono (by omega), [], upd_same, rfl, fun x h => nomatch h⟩ ?_ ?_
    · rintro i G2 hi ⟨kp2, P2, ws, hl, len, mem⟩
      refine ⟨rfl, _, rfl, _, rfl, p, l, W1, _, _, rfl, P2, by omega, W1p, SqL.of (kp2 _ _ W1p e1), by show 0 < 8; decide, by show 8 ≤ 1000000; decide, fun v G3 hv kp3 P3 => ?_⟩
      obtain ⟨y, hy, rfl⟩ := List.mem_map.mp hv
      refine ⟨_, rfl, by show 6 ≤ sizeLine; decide, fun q G4 nq sq hq => ⟨p, l, q, _, _, rfl, P3.same sq, by omega, P3.ne nq, SqL.of hq, by show 0 < 6; decide, by show 6 ≤ 1000000; decide, fun u G5 hu kp5 P5 => ?_⟩⟩
      obtain ⟨z, hz, rfl⟩ : ∃ z, z ∈ pieceS ∧ V.str z = u := List.mem_map.mp (show u ∈ pieceS.map V.str from hu)
      have py := pool_txt y hy
      have pz := piece_ok z hz
      have hl5 := kp5 M _ Mp (sq _ _ (kp3 M _ Mp hl))
      refine ⟨y, z, rfl, rfl, big_line (by omega), _, hl5, by rw [List.length_map, len]; exact big_line' (by omega), (((kp2.trans kp3).trans (Kp.same sq)).trans kp5).fresh hM, (P5.upd Mp (P1.nel hM)).mono (by omega), ws ++ [y ++ z], by rw [upd_same, List.map_append]; rfl, by rw [List.length_append, len]; rfl, fun x hx => ?_⟩
      rcases List.mem_append.mp hx with hx | hx
      · exact mem x hx
      · rw [List.mem_singleton.mp hx]
        exact word_app py.2.2 pz.2 (by omega)
    · rintro G2 ⟨kp2, P2, ws, hl, len, mem⟩
      have hW2 := kp2 _ _ W1p e1
      refine ⟨_, rfl, _, rfl, W1, M, _, _, rfl, rfl, hW2, hl, by rw [List.length_map, List.length_map, len]; exact big_line (by show 8 + 8 ≤ 1000000; decide), fun A1 G3 nA sA hA => ?_⟩
      refine ⟨rfl, _, rfl, p, l, _, 10, rfl, P2.same sA, by omega, by decide, by decide, fun d G4 d0 d1 kp4 P4 => ?_⟩
      refine ⟨_, _, rfl, rfl, 1 + d, rfl, by omega, by omega, fun J hJ => ?_⟩
      rw [show (1 + d).toNat = d.toNat + 1 by omega]
      have Jp := P4.ne hJ
      refine lc_range (fun i G' => Kp p G4 G' ∧ Pen G' p l (c + 20 + i) ∧ ∃ ys : List Str, G' J = some (.lst (ys.map V.str)) ∧ ys.length = i ∧ ∀ x ∈ ys, x ∈ oneS) ⟨Kp.new hJ, (P4.new hJ).mono (by omega), [], upd_same, rfl, fun x h => nomatch h⟩ ?_ ?_
      · rintro i G5 hi ⟨kp5, P5, ys, hl5, len5, mem5⟩
        refine ⟨rfl, _, rfl, by show 4 ≤ sizeLine; decide, fun q G6 nq sq hq => ⟨p, l, q, _, _, rfl, P5.same sq, by omega, P5.ne nq, SqL.of hq, by show 0 < 4; decide, by show 4 ≤ 1000000; decide, fun u G7 hu kp7 P7 => ?_⟩⟩
        obtain ⟨z, hz, rfl⟩ : ∃ z, z ∈ oneS ∧ V.str z = u := List.mem_map.mp (show u ∈ oneS.map V.str from hu)
        have hl7 := kp7 J _ Jp (sq _ _ hl5)
        refine ⟨_, hl7, by rw [List.length_map, len5]; exact big_line' (by omega), ((kp5.trans (Kp.same sq)).trans kp7).fresh hJ, (P7.upd Jp (P4.nel hJ)).mono (by omega), ys ++ [z], by rw [upd_same, List.map_append]; rfl, by rw [List.length_append, len5]; rfl, fun x hx => ?_⟩
        rcases List.mem_append.mp hx with hx | hx
        · exact mem5 x hx
        · rw [List.mem_singleton.mp hx]
          exact hz
      · rintro G5 ⟨kp5, P5, ys, hl5, len5, mem5⟩
        have yl : (ys.map (·.length)).sum = ys.length := sum_ones fun y hy => (one_ok y (mem5 y hy)).1
        have A1p : A1 ≠ p := P2.ne nA
        refine ⟨nothing, J, ys, rfl, rfl, .inl (SqL.of hl5), by rw [yl]; show ys.length + ys.length * 0 ≤ 16777216; omega, ?_⟩
        refine ⟨by show 1 ≤ sizeLine; decide, fun B1 G6 nB sB hB => ?_⟩
        have hA6 : G6 A1 = some (.lst (poolS.map V.str ++ ws.map V.str)) := sB _ _ (kp5 _ _ A1p (kp4 _ _ A1p hA))
        refine ⟨A1, B1, _, _, rfl, rfl, hA6, hB, by rw [List.length_append, List.length_map, List.length_map, len]; exact big_line (by show 8 + 8 + 1 ≤ 1000000; decide), fun Z G7 nZ sZ hZ => ?_⟩
        have kpE : Kp p G G7 := (Kp.same s1).trans (kp2.trans ((Kp.same sA).trans (kp4.trans (kp5.trans (Kp.same (sB.trans sZ))))))
        have PE := (P5.same sB).same sZ
        refine k Z (poolS ++ ws ++ [Txt.join nothing ys]) G7 ((Kp.same s1).trans (kp2.trans ((Kp.same sA).trans (kp4.trans kp5))) |>.free (P5.ne (sB.free nZ)) (sB.free nZ)) (fun x hx => ?_) (by rw [List.length_append, List.length_append, len]; rfl) kpE (PE.mono (by omega)) (by rw [hZ, List.map_append, List.map_append]; rfl)
        rcases List.mem_append.mp hx with hx | hx
        · rcases List.mem_append.mp hx with hx | hx
          · exact (pool_txt x hx).2.2
          · exact mem x hx
        · rw [List.mem_singleton.mp hx]
          exact glue_word mem5 (by omega) (by omega)
end
end K07
set_option Elab.async false
set_option linter.all false
set_option maxRecDepth 100000
set_option maxHeartbeats 16000000
namespace K07
open PySem PySem.Spec PyProof.Rows L2 TL Qh Qi Ql Qp ClX Qmk Qmg Qde Qtb Qtd RT Qcm Qop
abbrev sLaw : Stmt := top 93
/-- everything but lists is as it was -/
def Lx (G G' : Hp) : Prop := ∀ b o, (∀ xs, o ≠ .lst xs) → G b = some o → G' b = some o
theorem lx_of {G G' : Hp} {p l : Addr} {c : Int} (P : Pen G p l c) (k : Kp p G G') : Lx G G' := fun b o ne e => k b o (fun z => by
  obtain ⟨_, _, _, h, _⟩ := P
  rw [z, h] at e
  exact ne _ (Option.some.inj e).symm) e
theorem WS.at.lx {c : C4} {G G' : Hp} {a : Addr} {s : WS} (h : s.at c G a) (k : Lx G G') : s.at c G' a := by
  cases s with
  | stop ws =>
    obtain ⟨d, D1, h1, h2⟩ := h
    exact ⟨d, D1, k _ _ (fun _ z => nomatch z) h1, k _ _ (fun _ z => nomatch z) h2⟩
  | drop ws =>
    obtain ⟨d, D1, h1, h2⟩ := h
    exact ⟨d, D1, k _ _ (fun _ z => nomatch z) h1, k _ _ (fun _ z => nomatch z) h2⟩
  | swap ps =>
    obtain ⟨d, D1, h1, h2⟩ := h
    exact ⟨d, D1, k _ _ (fun _ z => nomatch z) h1, h2.same fun a l e => k _ _ (fun _ z => nomatch z) e⟩
  | stem es kk =>
    obtain ⟨d, D1, D2, D3, zs, h1, h2, h3, h4, h5⟩ := h
    exact ⟨d, D1, D2, D3, zs, k _ _ (fun _ z => nomatch z) h1, k _ _ (fun _ z => nomatch z) h2, k _ _ (fun _ z => nomatch z) h3, k _ _ (fun _ z => nomatch z) h4, h5⟩
theorem AllAt.lx {c : C4} {G G' : Hp} (k : Lx G G') : ∀ {as : List Addr} {ss : List WS}, AllAt c G as ss → AllAt c G' as ss
  | [], [], _ => True.intro
  | _ :: _, _ :: _, h => ⟨WS.at.lx h.1 k, AllAt.lx k h.2⟩
  | [], _ :: _, h => h.elim
  | _ :: _, [], h => h.elim
theorem ChainAt.lx {c : C4} {CC CT x : Addr} {G G' : Hp} {ss : List WS} (h : ChainAt c CC CT G x ss) (k : Lx G G') : ChainAt c CC CT G' x ss := by
  obtain ⟨dx, S, T, as, v4, v5, v6, v7, h1, h2, h3, d, v, T1, T2, b, k1, k2, t1, t2, t3, t4⟩ := h
  refine ⟨dx, S, T, as, v4, v5, v6, v7, k _ _ (fun _ z => nomatch z) h1, k _ _ (fun _ z => nomatch z) h2, h3.lx k, d, v, T1, T2, b, k1, k2, k _ _ (fun _ z => nomatch z) t1, k _ _ (fun _ z => nomatch z) t2, k _ _ (fun _ z => nomatch z) t3, ?_⟩
  rcases t4 with h | ⟨pre, m, post, a, e1, e2, e3, e4, e5, e6, e7⟩
  · exact .inl h
  · exact .inr ⟨pre, m, post, a, e1, e2, e3, e4, WS.at.lx e5 k, e6, e7⟩
/-! ### what comes out, as data -/
def tv (v : V) : Prop := v = .non ∨ ∃ x, v = .str x ∧ x.length ≤ 1000 ∧ txt x = true
theorem tv.wv {v : V} (h : tv v) : wv v := by
  rcases h with h | ⟨x, h, hx, _⟩
  · exact .inl h
  · exact .inr ⟨x, h, hx⟩
theorem hole_txt : txt Sp.hole = true := by decide +kernel
theorem upto_txt {x : Str} {c : Nat} (h : c ≤ x.length) (t : txt x = true) : txt (Sm.uptoS x c) = true := by
  unfold txt at t ⊢
  rw [← Array.all_toList, List.all_eq_true] at t ⊢
  intro d hd
  rw [Sm.upto_cps h] at hd
  exact t d (List.mem_of_mem_take hd)
theorem due_txt {es kk : List Str} {x : Str} (t : txt x = true) : txt (Sm.dueS es kk x) = true := by
  unfold Sm.dueS
  split
  · exact t
  · split
    · next j hj =>
      have := List.mem_of_find?_eq_some hj
      rw [List.mem_range] at this
      exact upto_txt (by omega) t
    · exact t
theorem LP.res_tv {lp : LP} (g : lp.good) {v : V} (hv : tv v) : tv (lp.res v) := by
  rcases hv with rfl | ⟨x, rfl, hx, ht⟩
  · exact .inl rfl
  · rw [LP.res_str]
    split
    · exact .inr ⟨x, rfl, hx, ht⟩
    · cases lp with
      | stop ws =>
        show tv (if x ∈ ws then V.str Sp.hole else .str x)
        split
        · exact .inr ⟨_, rfl, by rw [hole_len]; decide, hole_txt⟩
        · exact .inr ⟨x, rfl, hx, ht⟩
      | drop ws =>
        show tv (if x ∈ ws then V.non else .str x)
        split
        · exact .inl rfl
        · exact .inr ⟨x, rfl, hx, ht⟩
      | swap ps =>
        show tv (Sw.resW ps (.str x))
        unfold Sw.resW
        split
        · next p hp =>
          have := pool_txt _ (g.2.2.1 p (List.mem_of_find?_eq_some hp)).2
          exact .inr ⟨_, rfl, by omega, this.1⟩
        · exact .inr ⟨x, rfl, hx, ht⟩
      | stem es kk => exact .inr ⟨_, rfl, Nat.le_trans (dueS_len es kk x) hx, due_txt ht⟩
theorem lresAll_tv : ∀ {ls : List LP}, (∀ lp ∈ ls, lp.good) → ∀ {v : V}, tv v → tv (lresAll ls v)
  | [], _, _, hv => hv
  | lp :: ls, h, v, hv => lresAll_tv (ls := ls) (fun t ht => h t (List.mem_cons_of_mem _ ht)) (LP.res_tv (h lp List.mem_cons_self) hv)
theorem lresAll_app (a b : List LP) (v : V) : lresAll (a ++ b) v = lresAll b (lresAll a v) := List.foldl_append
theorem lresAll_non : ∀ ls : List LP, lresAll ls .non = .non
  | [] => rfl
  | lp :: ls => lresAll_non ls
theorem lresAll_hole : ∀ ls : List LP, lresAll ls (.str Sp.hole) = .str Sp.hole
  | [] => rfl
  | lp :: ls => by
    show lresAll ls (lp.res (.str Sp.hole)) = _
    rw [LP.res_str, if_pos rfl]
    exact lresAll_hole ls
def dataV : V → PyData
  | .str x => .str x
  | _ => .none
theorem dataV_dp {K : PySem.W.Frag} {G : Hp} {v : V} (h : tv v) : Dp K G v (dataV v) := by
  rcases h with rfl | ⟨x, rfl, _⟩
  · exact .non
  · exact .str x
theorem triple_ok {v : V} (h : tv v) : (PyData.list [dataV v, dataV v, dataV v]).showable = true ∧ (PyData.list [dataV v, dataV v, dataV v]).hasDict = false ∧ (PyData.list [dataV v, dataV v, dataV v]).depth ≤ 40 ∧ (PyData.list [dataV v, dataV v, dataV v]).shown.length ≤ sizeLine := by
  rcases h with rfl | ⟨x, rfl, hx, ht⟩
  · exact ⟨rfl, rfl, by decide, by decide +kernel⟩
  · refine ⟨rfl, rfl, by show 0 + 1 ≤ 40; decide, ?_⟩
    have h1 : PyData.leavesShort 8 (PyData.list [dataV (.str x), dataV (.str x), dataV (.str x)]) = true := by
      have e : (x.cps.toList.all fun c => decide (c < 16 ^ 8)) = true := Qmk.txt_all ht
      show (PyData.leavesShort 8 (.str x) && (PyData.leavesShort 8 (.str x) && (PyData.leavesShort 8 (.str x) && true))) = true
      rw [show PyData.leavesShort 8 (.str x) = true from e]
      rfl
    have h2 := PyData.shown_le 8 (by decide) _ h1
    have e : (PyData.list [dataV (.str x), dataV (.str x), dataV (.str x)]).weight = x.cps.size + 1 + (x.cps.size + 1 + (x.cps.size + 1 + 0)) := rfl
    have hx : x.cps.size ≤ 1000 := hx
    rw [e] at h2
    rw [sizeLine_eq]
    omega
end K07
set_option Elab.async false
set_option linter.all false
set_option maxRecDepth 100000
set_option maxHeartbeats 16000000
namespace K07
open PySem PySem.Spec PyProof.Rows L2 TL Qh Qi Ql Qp ClX Qmk Qmg Qde Qtb Qtd RT Qcm Qop
theorem ChainAt.ins2 {c : C4} {CC CT : Addr} {G : Hp} {x : Addr} {ss : List WS} (h : ChainAt c CC CT G x ss) : ∃ dx fs, G x = some (.ins CC dx fs) ∧ fs.lookup (Str.ofString "result") = none := by
  obtain ⟨dx, S, T, as, v4, v5, v6, v7, h1, _⟩ := h
  exact ⟨dx, _, h1, rfl⟩
theorem inV_hn {v : V} (h : tv v) (hi : inV v [V.str (Str.ofString "*"), .non] = true) : v = .non ∨ v = .str Sp.hole := by
  rcases h with rfl | ⟨x, rfl, _⟩
  · exact .inl rfl
  · have hi : ((Str.ofString "*" == x) || false) = true := hi
    rw [Bool.or_false] at hi
    exact .inr (congrArg V.str (beq_iff_eq.mp hi).symm)
theorem flat_tv {v : V} (h : tv v) : flatV v = true := by
  rcases h with rfl | ⟨x, rfl, _⟩ <;> rfl
theorem scal_tv {v : V} (h : tv v) : scal v v = true := by
  rcases h with rfl | ⟨x, rfl, _⟩ <;> rfl
def spLaw (K : PySem.W.Frag) : Sp := fun vs G Q _ => ∃ (a : Addr) (ns : List Int), vs = [.ref a] ∧ SqL K G a (ns.map V.int) ∧ ∀ G', Q (.bl true) G'
structure ChM (P : Program) (w : World) (K : PySem.W.Frag) (mg : Str → Option Value) (base : Heap) (c : C4) (CC CT : Addr) : Prop where
  cl : Cls K CC
  res : ∃ f fd, Meth K CC "result" f ∧ Binds K fd ["self", "word"] [] ∧ (∀ (u : Value) (ws : List Value), ws.length + 1 = 2 → bindArgs fd ⟨[u], ([Str.ofString "word"] : List Str).zip ws⟩ = pure ((["self", "word"] : List Str).zip (u :: ws))) ∧ FnOk P w K mg base (L2.CX P w) 3 f fd ["self", "word"] (spChRes c CC CT)
  len : ∃ g, PySem.W.findIn K (.ref CC) "__len__" = some (some (.ref g)) ∧ PySem.W.isFn K (.ref g) = true ∧ FnR P w K mg base (L2.CX P w) 1 g (spChLen c CC CT)
  eq : ∃ g, PySem.W.findIn K (.ref CC) "__eq__" = some (some (.ref g)) ∧ PySem.W.isFn K (.ref g) = true ∧ FnR P w K mg base (L2.CX P w) 5 g (spEq (SameChain c CC CT))
  ne : PySem.W.findIn K (.ref CC) "__ne__" = some (some (.builtin "object.__ne__"))
  mo : PySem.W.mroIn K CC (.type "object") = some true
abbrev lawN : List Str := ["_law_script", "_law_pen_here", "_law_turn", "_law_line_so", "_law_made", "_law_few", "_law_cut", "_law_ahead", "_law_thing", "_law_due", "_law_one", "_law_other"]
section
variable {P : Program} {w : World} {K : PySem.W.Frag} {mg : Str → Option Value} {base : Heap}
theorem chI_mono {c : C4} {CC CT : Addr} {vs : List V} {H : Hp} {Q Q' : VK} {E E' : XK} (h : spChainI c CC CT vs H Q E) (m : ∀ H', Q .non H' → Q' .non H') : spChainI c CC CT vs H Q' E' := by
  obtain ⟨ws, rest, h1, h2, h3, h4⟩ := h
  refine ⟨ws, rest, h1, h2, h3, fun p hp => ?_⟩
  obtain ⟨x, dx, q, as, ss, e1, e2, e3, e4, e5, e6, e7⟩ := h4 p hp
  exact ⟨x, dx, q, as, ss, e1, e2, e3, e4, e5, e6, fun G' kp ch => m _ (e7 G' kp ch)⟩
theorem nilA {c : C4} {CC CT : Addr} (O : OrM P w K mg base c CC CT) {G : Hp} {E : XK} {x1 dx1 : Addr} (hx : G x1 = none) (hdx : G dx1 = none) (ne : dx1 ≠ x1) {Q' : VK} (k : ∀ G', Same G G' → ChainAt c CC CT G' x1 [] → Q' .non G') :
    spChainI c CC CT [.ref x1] (L2.upd (L2.upd G dx1 (.own x1)) x1 (.ins CC dx1 [])) Q' E := by
  refine chI_mono (O.nil (Q := fun v H => ∃ x, v = .ref x ∧ Same G H ∧ ChainAt c CC CT H x []) (E := fun _ _ _ => False) (fun x G' n s c => ⟨x, rfl, s, c⟩) x1 dx1 hx hdx ne) ?_
  rintro H' ⟨_, x, e, sm, ch⟩
  cases e
  exact k H' sm ch
theorem a_word : wordV (.str (Str.ofString "a")) = true := by decide +kernel
theorem b_word : wordV (.str (Str.ofString "b")) = true := by decide +kernel
theorem asc_a {ss : List Str} (h : Qs.Asc [Str.ofString "a"] ss) : ss = [Str.ofString "a"] := Qs.asc_one h ⟨List.Perm.refl _, rfl⟩ fun _ => Iff.rfl
abbrev wsA : WS := .stop [Str.ofString "a"]
abbrev wsAB : WS := .swap [(Str.ofString "a", Str.ofString "b")]
theorem stop_a {c : C4} {CE : Addr} {H : Hp} {Q : VK} {E : XK} (kQ : ∀ b G', H b = none → Same H G' → wsA.at c G' b → Q (.ref b) G') (x dx : Addr) (hx : H x = none) (hdx : H dx = none) (ne : dx ≠ x) :
    Sp.spInitS K c.S CE [.ref x, .str (Str.ofString "a")] (L2.upd (L2.upd H dx (.own x)) x (.ins c.S dx [])) (fun v H2 => v = .non ∧ Q (.ref x) H2) E := by
  have due : Sp.dueX ([Str.ofString "a"].map V.str) = none := due_stop (by show 1 ≤ 1; decide) (by show 1 ≤ 20; decide) fun q hq => by rw [List.mem_singleton.mp hq]; exact a_word
  refine Sp.Made.want (xs := [Str.ofString "a"].map V.str) ⟨fun v hv G' _ => ?_, (by show 1 ≤ 1000; decide), fun rs i hd => (by rw [due] at hd; cases hd), fun ts hd hts o ss G' no so hat asc => ?_⟩ x dx hx hdx ne
  · obtain ⟨q, hq, rfl⟩ := List.mem_map.mp hv
    rw [List.mem_singleton.mp hq]
    exact .inl ⟨_, rfl, by show 1 ≤ 1000000; decide⟩
  · obtain rfl := strs_inj hts
    rw [asc_a asc] at hat
    exact kQ o G' no so hat
theorem mon_ab : ∀ s ∈ [wsA, wsAB], Any s ∧ s.isM = false := fun s h => by
  rcases List.mem_cons.mp h with rfl | h
  · exact ⟨⟨by show 1 ≤ 20; decide, fun x hx => by rw [List.mem_singleton.mp hx]; decide +kernel⟩, rfl⟩
  · rw [List.mem_singleton.mp h]
    exact ⟨⟨⟨by show 1 ≤ 10; decide, fun p hp => by rw [List.mem_singleton.mp hp]; show 1 ≤ 1000; decide⟩, fun x hx => by rw [List.mem_singleton.mp hx]; decide +kernel⟩, rfl⟩
theorem sh_ab {ss : List WS} (h : ∀ s ∈ ss, s ∈ [wsA, wsAB]) : Shape ss := ⟨fun s hs => (mon_ab s (h s hs)).1, .inl fun s hs => (mon_ab s (h s hs)).2⟩
theorem sort_ab {qs : List (Str × Str)} (h : Sw.SortP [(.inr (Str.ofString "a"), .str (Str.ofString "b"))] qs) : qs = [(Str.ofString "a", Str.ofString "b")] := sortP_uniq h ⟨List.Perm.refl _, List.Pairwise.cons (fun _ h => nomatch h) List.Pairwise.nil⟩
theorem swap_ab {c : C4} {CE p : Addr} {H : Hp} {Q : VK} {E : XK} (hp : H p = some (.dK (mergeK [] [(.inr (Str.ofString "a"), .str (Str.ofString "b"))]))) (kQ : ∀ b G', H b = none → Same H G' → wsAB.at c G' b → Q (.ref b) G') : Sw.spOf K w c.W CE [.ref c.W, .ref p] H Q E := by
  refine ⟨.ref p, rfl, .inr (.inr ⟨p, [(.inr (Str.ofString "a"), .str (Str.ofString "b"))], rfl, hp, fun e he G' _ => ?_, fun hh => absurd hh (by decide), fun _ hh => absurd (fun e he => ?_) hh, fun _ _ qs o G' sp no so hat => ?_⟩)⟩
  · rw [List.mem_singleton.mp he]
    exact ⟨.inl ⟨_, rfl, by show 1 ≤ 1000000; decide⟩, .inl ⟨_, rfl, by show 1 ≤ 1000000; decide⟩⟩
  · rw [List.mem_singleton.mp he]
    show (wordV (.str (Str.ofString "a")) && wordV (.str (Str.ofString "b"))) = true
    rw [a_word, b_word]
    rfl
  · obtain rfl := sort_ab sp
    exact kQ o G' no so hat
theorem stop_aT {c : C4} {CE : Addr} {W : L2.St → XK} {σ : L2.St} {H : Hp} {Q : VK} (kQ : ∀ b G', H b = none → Same H G' → wsA.at c G' b → Q (.ref b) G') : tMakeS c.S (Sp.spInitS K c.S CE) W (tCons (tC (.str (Str.ofString "a"))) tNil) σ H Q := fun x dx hx hdx ne => stop_a kQ x dx hx hdx ne
theorem swap_abT {c : C4} {CE : Addr} {W : L2.St → XK} {σ : L2.St} {H : Hp} {Q : VK} (kQ : ∀ b G', Same H G' → wsAB.at c G' b → Q (.ref b) G') : tCMethT c.W (Sw.spOf K w c.W CE) W (tC (.ref c.W)) (tCons (tDisp [(tC (.str (Str.ofString "a")), tC (.str (Str.ofString "b")))]) tNil) σ H Q :=
  ⟨rfl, fun p hp => ⟨upd_same, [(.inr (Str.ofString "a"), .str (Str.ofString "b"))], rfl, by show 1 ≤ 15; decide, swap_ab (Q := Q) upd_same fun b G' nb s hb => kQ b G' (Same.trans (fun b o e => by rw [upd_ne (ne_of_none e hp), upd_ne (ne_of_none e hp)]; exact e) s) hb⟩⟩
theorem any_ab {ss : List WS} (h : ∀ s ∈ ss, s ∈ [wsA, wsAB]) : ∀ s ∈ ss, Any s := fun s hs => (mon_ab s (h s hs)).1
theorem in_ab : ∀ s ∈ [] ++ [wsA] ++ [wsAB], s ∈ [wsA, wsAB] := fun s hs => hs
theorem in_ba : ∀ s ∈ [] ++ [wsAB] ++ [wsA], s ∈ [wsA, wsAB] := fun s hs => (List.mem_cons.mp hs).elim (fun e => by rw [e]; exact List.mem_cons_of_mem _ (List.mem_singleton.mpr rfl)) fun h => List.mem_cons.mpr (.inl (List.mem_singleton.mp h))
theorem one_a : resAll ([] ++ [wsA] ++ [wsAB]) (.str (Str.ofString "a")) = .str (Str.ofString "*") := by rfl
theorem other_a : resAll ([] ++ [wsAB] ++ [wsA]) (.str (Str.ofString "a")) = .str (Str.ofString "b") := by rfl
theorem other_b : resAll ([] ++ [wsAB] ++ [wsA]) (.str (Str.ofString "b")) = .str (Str.ofString "b") := by rfl
theorem scLaw : FnScope lawN ["_law_script"] (defScope sLaw) := ⟨rfl, rfl, rfl, by decide +kernel, rfl, by decide +kernel, by decide +kernel⟩
theorem ok_law {c : C4} {CC CT CE fl : Addr} {fdl : FuncData} (D : Fun K "law" "law" sLaw fl fdl) (B : Blt mg) (M : Makers P w K mg base c CE) (O : OrM P w K mg base c CC CT) (H : ChM P w K mg base c CC CT)
    (F__law_pen : Ok P w K mg base "_law_pen" (defArgs sPen) ["_law_script"] 1 (spPen K))
    (F__law_draw : Ok P w K mg base "_law_draw" (defArgs sDraw) ["_law_pen_here", "_law_many"] 1 spDraw)
    (F_steps : Ok P w K mg base "_law_steps" (defArgs sSteps) ["_law_pen_here", "_law_most"] 5 spSteps)
    (F_chain : Ok P w K mg base "_law_chain" (defArgs sLawChain) ["_law_line_so"] 9 (spLawChain c CC CT))
    (F_words : Ok P w K mg base "_law_words" (defArgs sLawWords) ["_law_pen_here"] 3 spWords)
    (F_result : Ok P w K mg base "_law_result" (defArgs sResult) ["_law_line_so", "_law_thing"] 3 spResult)
    (F_by : Ok P w K mg base "_law_by_steps" (defArgs sByStep) ["_law_line_so", "_law_thing"] 9 spBy) :
    FnG P w K mg base (L2.CX P w) 11 fl fdl ["_law_script"] (spLaw K) := by
  refine Qh.okG D scLaw (fun vs G Q E h => ?_) (fun cdv A out t G vs Q E gu hr h => ?_)
  · obtain ⟨a, ns, rfl, _⟩ := h
    rfl
  · obtain ⟨a, ns, rfl, hS, k⟩ := h
    have hu64 := hr.units
    have hgu : (A.deeper (envOfC (Str.ofString "law") (defScope sLaw) t.heap.objs.size fl cdv)).guards = some [] := gu
    obtain ⟨⟨fS, MS, FS⟩, _, _, ⟨mc, pO, gO, cr, cm, FO⟩, gS, gD, gW, gM⟩ := M
    obtain ⟨fC, MC, FC⟩ := O.ch
    obtain ⟨g, og1, og2, FOr⟩ := O.or
    obtain ⟨fR, fdR, MR, bR, bK, FR⟩ := H.res
    obtain ⟨gL, iL, fL, FL⟩ := H.len
    obtain ⟨gE, iE, fE, FE⟩ := H.eq
    refine ⟨_, (pss_cons (ps_set (i := 1) scLaw.nd rfl (by first | exact Or.inl rfl | exact Or.inr rfl) (pe_own F__law_pen (hr.mono (by decide)) takes0 (pa_cons (pv 0) pa_nil)))
      (pss_cons (ps_for (passes_of rfl) rfl (pi_range1 (by rfl) B.n_range (pa_cons pe_int pa_nil)) (pg_name (i := 2) scLaw.nd rfl (by first | exact Or.inl rfl | exact Or.inr rfl))
        (pss_cons (ps_set (i := 3) scLaw.nd rfl (by first | exact Or.inl rfl | exact Or.inr rfl) (pe_own F_steps (hr.mono (by decide)) takes0 (pa_cons (pv 1) (pa_cons pe_int pa_nil))))
        (pss_cons (ps_par (i := 4) (j := 5) rfl scLaw.nd rfl rfl (by decide) rfl rfl (pa_cons (pe_own F_chain (hr.mono (by decide)) takes0 (pa_cons (pv 3) pa_nil)) (pa_cons (pe_own F_words (hr.mono (by decide)) takes0 (pa_cons (pv 1) pa_nil)) pa_nil)) rfl)
        (pss_cons (ps_set (i := 6) scLaw.nd rfl (by first | exact Or.inl rfl | exact Or.inr rfl) (pe_own F__law_draw (hr.mono (by decide)) takes0 (pa_cons (pv 1) (pa_cons (pe_op op_add (pe_callB (r := rLen K) call_len (by rfl) B.n_len bt_len (pa_cons (pv 3) pa_nil)) pe_int) pa_nil))))
        (pss_cons (ps_set (i := 7) scLaw.nd rfl (by first | exact Or.inl rfl | exact Or.inr rfl) (pe_own F_chain (hr.mono (by decide)) takes0 (pa_cons (pe_slice sl_list (pv 3) po_none (po_some (pv 6))) pa_nil)))
        (pss_cons (ps_for (passes_of rfl) rfl (pi_list (pv 5)) (pg_name (i := 8) scLaw.nd rfl (by first | exact Or.inl rfl | exact Or.inr rfl))
          (pss_cons (ps_set (i := 9) scLaw.nd rfl (by first | exact Or.inl rfl | exact Or.inr rfl) (pe_own F_result (hr.mono (by decide)) takes0 (pa_cons (pv 3) (pa_cons (pv 8) pa_nil))))
          (pss_cons (ps_if (pt_cmpR op_ne (pe_callB (call_repr hgu hu64) (by rfl) B.n_repr bt_repr (pa_cons (pn_lst (pa_cons (pe_meth (pv 4) H.cl MR FR (hr.mono (by decide)) bR .nil passL (pa_cons (pv 8) pa_nil)) (pa_cons (pe_methK (ks := [Str.ofString "word"]) (ps := ["self", "word"]) (pv 4) H.cl MR FR (hr.mono (by decide)) bK takes0 (pk_cons (pv 8) pk_nil)) (pa_cons (pe_own F_by (hr.mono (by decide)) takes0 (pa_cons (pv 3) (pa_cons (pv 8) pa_nil))) pa_nil)))) pa_nil)) (pe_callB (call_repr hgu hu64) (by rfl) B.n_repr bt_repr (pa_cons (pe_op on_rep (pn_lst (pa_cons (pv 9) pa_nil)) pe_int) pa_nil)) (nomark _)) (pss_one (ps_ret pe_bl)) pss_nil)
          (pss_one (ps_if (PW.pt (pw_and (pt_cmpR op_in_seq (pe_meth (pv 7) H.cl MR FR (hr.mono (by decide)) bR .nil passL (pa_cons (pv 8) pa_nil)) (pn_tup (pa_cons pe_str (pa_cons pe_non pa_nil))) (by rfl)) (pw_and1 (pt_cmpR op_ne (pe_meth (pv 4) H.cl MR FR (hr.mono (by decide)) bR .nil passL (pa_cons (pv 8) pa_nil)) (pe_meth (pv 7) H.cl MR FR (hr.mono (by decide)) bR .nil passL (pa_cons (pv 8) pa_nil)) (nomark _))))) (pss_one (ps_ret pe_bl)) pss_nil)))))
        (pss_cons (ps_for (passes_of rfl) rfl (pi_list (pn_lst (pa_cons pe_str (pa_cons pe_non pa_nil)))) (pg_name (i := 8) scLaw.nd rfl (by first | exact Or.inl rfl | exact Or.inr rfl))
          (pss_one (ps_if (pt_cmpR op_ne (pe_own F_by (hr.mono (by decide)) takes0 (pa_cons (pv 3) (pa_cons (pv 8) pa_nil))) (pv 8) (nomark _)) (pss_one (ps_ret pe_bl)) pss_nil)))
        (pss_one (ps_if (PW.pt (pw_or (pt_cmpR op_ne (pe_callB (call_lenOwn iL fL FL (hr.mono (by decide)) passL) (by rfl) B.n_len bt_len (pa_cons (pv 4) pa_nil)) (pe_callB (r := rLen K) call_len (by rfl) B.n_len bt_len (pa_cons (pv 3) pa_nil)) (nomark _)) (pw_or1 (pt_cmpR (op_ownNe H.mo H.ne iE fE FE (hr.mono (by decide)) passL) (pv 4) (pe_op (op_ownBin (op := .BitOr) O.hc og1 og2 FOr (hr.mono (by decide)) passL) (pv 7) (pe_own F_chain (hr.mono (by decide)) takes0 (pa_cons (pe_slice sl_list (pv 3) (po_some (pv 6)) po_none) pa_nil))) (nomark _))))) (pss_one (ps_ret pe_bl)) pss_nil)))))))))
      (pss_cons (ps_par (i := 10) (j := 11) rfl scLaw.nd rfl rfl (by decide) rfl rfl (pa_cons (pe_op (op_ownBin (op := .BitOr) O.hc og1 og2 FOr (hr.mono (by decide)) passL) (pe_op (op_ownBin (op := .BitOr) O.hc og1 og2 FOr (hr.mono (by decide)) passL) (pe_makeS0 MC FC (hr.mono (by decide)) takes0 O.gC) (pe_makeS MS FS (hr.mono (by decide)) takes0 gS (pa_cons pe_str pa_nil))) (pe_cmethT (pe_glob (v := .ref c.W) rfl gW rfl) cr cm FO (hr.mono (by decide)) takes0 (pa_cons (pe_disp (pps_cons pe_str pe_str pps_nil) rfl rfl (by simp) (by show 1 ≤ 15; decide)) pa_nil))) (pa_cons (pe_op (op_ownBin (op := .BitOr) O.hc og1 og2 FOr (hr.mono (by decide)) passL) (pe_op (op_ownBin (op := .BitOr) O.hc og1 og2 FOr (hr.mono (by decide)) passL) (pe_makeS0 MC FC (hr.mono (by decide)) takes0 O.gC) (pe_cmethT (pe_glob (v := .ref c.W) rfl gW rfl) cr cm FO (hr.mono (by decide)) takes0 (pa_cons (pe_disp (pps_cons pe_str pe_str pps_nil) rfl rfl (by simp) (by show 1 ≤ 15; decide)) pa_nil))) (pe_makeS MS FS (hr.mono (by decide)) takes0 gS (pa_cons pe_str pa_nil))) pa_nil)) rfl)
      (pss_one (ps_ret (pe_cmpR (op_eqG (rcG_list mon_flat eqG_flat) (hr.mono (by decide))) (pn_lst (pa_cons (pe_meth (pv 10) H.cl MR FR (hr.mono (by decide)) bR .nil passL (pa_cons pe_str pa_nil)) (pa_cons (pe_meth (pv 11) H.cl MR FR (hr.mono (by decide)) bR .nil passL (pa_cons pe_str pa_nil)) (pa_cons (pe_meth (pv 11) H.cl MR FR (hr.mono (by decide)) bR .nil passL (pa_cons pe_str pa_nil)) pa_nil)))) (pn_lst (pa_cons pe_str (pa_cons pe_str (pa_cons pe_str pa_nil)))) (nomark _))))))), ?_⟩
    refine ⟨_, rfl, a, ns, rfl, hS, fun p l G0 np s0 P0 => ?_⟩
    refine ⟨8, rfl, by decide, by decide, ?_⟩
    refine for_range (n := 8) (fun i σ' G' => ∃ o2 o3 o4 o5 o6 o7 o8 o9 o10 o11, σ' = [some (.ref a), some (.ref p), o2, o3, o4, o5, o6, o7, o8, o9, o10, o11] ∧ Pen G' p l (300 * i)) ⟨_, _, _, _, _, _, _, _, _, _, rfl, P0.mono (by omega)⟩ ?_ ?_
    · rintro i σ1 G1 hi ⟨o2, o3, o4, o5, o6, o7, o8, o9, o10, o11, rfl, P1⟩
      refine ⟨_, rfl, p, l, _, 5, rfl, P1, by omega, by decide, fun L as ls G2 nL hL hls good one few kp2 P2 => ?_⟩
      have hF : LsAt (fun b => b ≠ p) G2 as ls := hls.weak fun b hb => P1.ne hb.1
      have Lp : L ≠ p := P1.ne nL
      have al := hls.len
      refine ⟨_, rfl, _, L, as, ls, rfl, hL, hF, good, one, few, fun m ss G3 nm s3 ma ch3 => ?_⟩
      refine ⟨_, rfl, p, l, _, rfl, P2.same s3, by omega, fun W ws G4 nW hw wl kp4 P4 hW => ⟨_, _, rfl, ?_⟩⟩
      have ch4 := ch3.lx (lx_of (P2.same s3) kp4)
      have hL4 := kp4 _ _ Lp (s3 _ _ hL)
      have Wp : W ≠ p := (P2.same s3).ne nW
      have hls4 : LsAt (fun b => b ≠ p) G4 as ls := (hF.same s3).keep (pen_tups (P2.same s3) kp4) (fun t xs hf e => kp4 _ _ hf e)
      refine ⟨_, rfl, _, rfl, .ref L, _, rfl, .inl ⟨_, SqL.of hL4, rfl⟩, _, _, rfl, rfl, p, l, _, _, rfl, P4, by omega, by rw [List.length_map]; omega, by rw [List.length_map]; omega, fun d G5 d0 d1 kp5 P5 => ?_⟩
      rw [List.length_map, al] at d1
      have ch5 := ch4.lx (lx_of P4 kp5)
      have hL5 := kp5 _ _ Lp hL4
      have hW5 := kp5 _ _ Wp hW
      have hls5 : LsAt (fun b => b ≠ p) G5 as ls := hls4.keep (pen_tups P4 kp5) (fun t xs hf e => kp5 _ _ hf e)
      obtain ⟨n, rfl⟩ : ∃ n : Nat, d = (n : Int) := ⟨d.toNat, by omega⟩
      refine ⟨_, rfl, _, rfl, _, rfl, L, _, rfl, SqL.of hL5, fun L6 h6 => ?_⟩
      refine ⟨_, L6, as.take n, ls.take n, rfl, by rw [upd_same, cut_take, List.map_take], (hls5.take n).same (Same.new h6), fun q hq => good q (List.mem_of_mem_take hq), ?_, by rw [List.length_take]; omega, fun ah tt G7 nah s7 ma7 ch7 => ?_⟩
      · have : LOne (ls.take n ++ ls.drop n) := by rw [List.take_append_drop]; exact one
        exact this.left
      have s57 : Same G5 G7 := (Same.new h6).trans s7
      have ch7m := ch5.same s57
      have hL7 := s57 _ _ hL5
      have hW7 := s57 _ _ hW5
      have hls7 := hls5.same s57
      have anyS := ma.any good
      have goodT : ∀ lp ∈ ls.take n, lp.good := fun q hq => good q (List.mem_of_mem_take hq)
      have anyT := ma7.any goodT
      refine ⟨_, rfl, W, rfl, ⟨_, SqL.of hW7⟩, for_it walk_list (fun j σ' G' => ∃ q2 q8 q9, σ' = [some (.ref a), some (.ref p), q2, some (.ref L), some (.ref m), some (.ref W), some (.int (n : Int)), some (.ref ah), q8, q9, o10, o11] ∧ Same G7 G') ⟨_, _, _, rfl, Same.refl G7⟩ (fun j σ' G' _ ⟨_, _, _, _, sm⟩ => SqL.of (sm _ _ hW7)) ?_ ?_⟩
      · rintro j y σ2 G8 G9 hj ⟨q2, q8, q9, rfl, s8⟩ ⟨rfl, hy⟩
        obtain ⟨x, hx, rfl⟩ := map_at hy
        have wx := hw x (List.mem_of_getElem? hx)
        have xl : x.length ≤ 1000 := by have := (word_iff.mp wx).2.1; omega
        have tx : tv (.str x) := .inr ⟨x, rfl, xl, word_txt wx⟩
        have eD : resAll ss (.str x) = lresAll ls (.str x) := ma.res good tx.wv
        have eT : resAll tt (.str x) = lresAll (ls.take n) (.str x) := ma7.res goodT tx.wv
        have tD : tv (lresAll ls (.str x)) := lresAll_tv good tx
        have tT : tv (lresAll (ls.take n) (.str x)) := lresAll_tv goodT tx
        have split : lresAll ls (.str x) = lresAll (ls.drop n) (lresAll (ls.take n) (.str x)) := by rw [← lresAll_app, List.take_append_drop]
        refine ⟨_, rfl, _, rfl, _, L, as, ls, x, rfl, s8 _ _ hL7, hls7.same s8, good, xl, fun G10 s10 => ?_⟩
        have t10 := s8.trans s10
        obtain ⟨dx, fs, i1, i2⟩ := (ch7m.same t10).ins2
        refine ⟨_, rfl, m, dx, fs, rfl, i1, i2, _, rfl, m, ss, x, rfl, ch7m.same t10, anyS, wx, xl, fun G11 s11 => ?_⟩
        have t11 := t10.trans s11
        refine ⟨_, rfl, m, dx, fs, rfl, s11 _ _ i1, i2, _, rfl, m, ss, x, rfl, ch7m.same t11, anyS, wx, xl, fun G12 s12 => ?_⟩
        have t12 := t11.trans s12
        refine ⟨_, rfl, _, rfl, _, L, as, ls, .str x, rfl, t12 _ _ hL7, hls7.same t12, good, tx.wv, fun G13 s13 => ?_⟩
        have t13 := t12.trans s13
        refine ⟨by show 3 ≤ sizeLine; decide, fun A1 G14 n14 s14 h14 => ?_⟩
        have t14 := t13.trans s14
        rw [eD] at h14
        obtain ⟨r1, r2, r3, r4⟩ := triple_ok tD
        refine ⟨A1, _, rfl, .lst (SqL.of h14) (.cons (dataV_dp tD) (.cons (dataV_dp tD) (.cons (dataV_dp tD) .nil))), r1, r2, r3, r4, ?_⟩
        refine ⟨_, rfl, by show 1 ≤ sizeLine; decide, fun B1 G15 n15 s15 h15 => ⟨B1, 3, _, rfl, rfl, h15, by decide, by decide, by show 1 * 3 ≤ sizeLine; decide, fun B2 G16 n16 s16 h16 => ?_⟩⟩
        have t16 := t14.trans (s15.trans s16)
        have h16 : G16 B2 = some (.lst [lresAll ls (.str x), lresAll ls (.str x), lresAll ls (.str x)]) := h16
        refine ⟨B2, _, rfl, .lst (SqL.of h16) (.cons (dataV_dp tD) (.cons (dataV_dp tD) (.cons (dataV_dp tD) .nil))), r1, r2, r3, r4, rfl, _, rfl, ?_⟩
        refine ite2 (fun hq => ?_) (fun _ => ?_)
        · rw [decide_eq_true rfl] at hq
          cases hq
        obtain ⟨dy, gs, j1, j2⟩ := (ch7.same t16).ins2
        refine ⟨_, rfl, ah, dy, gs, rfl, j1, j2, _, rfl, ah, tt, x, rfl, ch7.same t16, anyT, wx, xl, fun G17 s17 => ?_⟩
        rw [eT]
        have t17 := t16.trans s17
        refine ⟨by show 2 ≤ sizeLine; decide, fun T1 G18 n18 s18 h18 => ?_⟩
        have t18 := t17.trans s18
        refine ⟨T1, _, rfl, .inr (SqT.of h18), flat_tv tT, rfl, _, rfl, ?_⟩
        refine ite2 (fun hin => ?_) (fun _ => ?_)
        · have hin : inV (lresAll (ls.take n) (.str x)) [V.str (Str.ofString "*"), .non] = true := hin
          have eq : lresAll ls (.str x) = lresAll (ls.take n) (.str x) := by
            rcases inV_hn tT hin with e | e
            · rw [split, e]
              exact lresAll_non _
            · rw [split, e]
              exact lresAll_hole _
          refine ⟨_, rfl, m, dx, fs, rfl, (s11.trans (s12.trans (s13.trans (s14.trans (s15.trans (s16.trans (s17.trans s18))))))) _ _ i1, i2, _, rfl, m, ss, x, rfl, ch7m.same t18, anyS, wx, xl, fun G19 s19 => ?_⟩
          refine ⟨_, rfl, ah, dy, gs, rfl, (s17.trans (s18.trans s19)) _ _ j1, j2, _, rfl, ah, tt, x, rfl, ch7.same (t18.trans s19), anyT, wx, xl, fun G20 s20 => ?_⟩
          rw [eD, eT, eq]
          refine ⟨scal_tv tT, _, rfl, ?_⟩
          refine ite2 (fun hq => ?_) (fun _ => ?_)
          · rw [decide_eq_true rfl] at hq
            cases hq
          exact ⟨_, _, _, rfl, t18.trans (s19.trans s20)⟩
        · exact ⟨_, _, _, rfl, t18⟩
      · rintro σ2 G8 ⟨q2, q8, q9, rfl, s8⟩
        refine ⟨by show 2 ≤ sizeLine; decide, fun Z G9 n9 s9 h9 => ?_⟩
        have t9 := s8.trans s9
        refine ⟨Z, rfl, ⟨_, SqL.of h9⟩, for_it walk_list (fun j σ' G' => ∃ q8, σ' = [some (.ref a), some (.ref p), q2, some (.ref L), some (.ref m), some (.ref W), some (.int (n : Int)), some (.ref ah), q8, q9, o10, o11] ∧ Same G9 G') ⟨_, rfl, Same.refl G9⟩ (fun j σ' G' _ ⟨_, _, sm⟩ => SqL.of (sm _ _ h9)) ?_ ?_⟩
        · rintro j y σ3 G10 G11 hj ⟨q8, rfl, s10⟩ ⟨rfl, hy⟩
          have hy2 : y = .str Sp.hole ∨ y = .non := by
            have := List.mem_of_getElem? hy
            rcases List.mem_cons.mp this with h | h
            · exact .inl h
            · exact .inr (List.mem_singleton.mp h)
          have ty : tv y := by
            rcases hy2 with rfl | rfl
            · exact .inr ⟨_, rfl, by rw [hole_len]; decide, hole_txt⟩
            · exact .inl rfl
          have ey : lresAll ls y = y := by
            rcases hy2 with rfl | rfl
            · exact lresAll_hole ls
            · exact lresAll_non ls
          have t10 := t9.trans s10
          refine ⟨_, rfl, _, rfl, _, L, as, ls, y, rfl, t10 _ _ hL7, hls7.same t10, good, ty.wv, fun G12 s12 => ⟨_, rfl, ?_⟩⟩
          rw [ey]
          refine ⟨scal_tv ty, _, rfl, ?_⟩
          refine ite2 (fun hq => ?_) (fun _ => ?_)
          · rw [decide_eq_true rfl] at hq
            cases hq
          exact ⟨_, rfl, s10.trans s12⟩
        · rintro σ3 G10 ⟨q8, rfl, s10⟩
          have t10 := t9.trans s10
          obtain ⟨dx, fs, i1, i2⟩ := (ch7m.same t10).ins2
          have sl : ss.length = (as.map V.ref).length := by rw [List.length_map, al, ma.len]
          refine ⟨_, rfl, m, dx, fs, rfl, i1, m, ss, rfl, ch7m.same t10, ss.length, rfl, by rw [← ma.len]; omega, ?_⟩
          refine ⟨_, rfl, .ref L, _, rfl, .inl ⟨_, SqL.of (t10 _ _ hL7), rfl⟩, rfl, _, rfl, ?_⟩
          rw [← sl]
          refine ite2 (fun hq => ?_) (fun _ => ?_)
          · rw [decide_eq_true rfl] at hq
            cases hq
          refine ⟨_, rfl, _, rfl, _, rfl, _, rfl, _, rfl, L, _, rfl, SqL.of (t10 _ _ hL7), fun L9 h9' => ?_⟩
          have oneD : LOne (ls.drop n) := by
            have : LOne (ls.take n ++ ls.drop n) := by rw [List.take_append_drop]; exact one
            exact this.right
          refine ⟨_, L9, as.drop n, ls.drop n, rfl, by rw [upd_same, cut_drop, List.map_drop], ((hls7.same t10).drop n).same (Same.new h9'), fun q hq => good q (List.mem_of_mem_drop hq), oneD, by rw [List.length_drop]; omega, fun bh uu G11 nbh s11 ma11 ch11 => ?_⟩
          have t11 : Same G7 G11 := t10.trans ((Same.new h9').trans s11)
          have both : tt ++ uu = ss := by
            have h1 := ma7.app ma11
            rw [List.take_append_drop] at h1
            exact h1.one ma
          refine O.both (ch7.same t11) ch11 (by rw [both]; exact ma.shape good one) (by rw [both, ← ma.len]; omega) fun bo G12 nbo s12 ch12 => ?_
          rw [both] at ch12
          obtain ⟨dz, hs, k1, _⟩ := ch12.ins2
          refine ⟨m, dx, fs, .ref CC, rfl, (((Same.new h9').trans s11).trans s12) _ _ i1, O.kc.i.ty k1, by simp [PySem.W.notFirst], m, bo, rfl, ⟨ss, ch7m.same (t11.trans s12), ch12⟩, fun H' e => ⟨true, rfl, _, rfl, iteF ?_⟩⟩
          refine ⟨_, _, _, _, _, _, _, _, _, _, rfl, ?_⟩
          exact ((P5.same s57).same (t11.trans (s12.trans e))).mono (by omega)
    · rintro σ1 G1 ⟨o2, o3, o4, o5, o6, o7, o8, o9, o10, o11, rfl, P1⟩
      intro x1 dx1 hx1 hdx1 ne1
      refine nilA O hx1 hdx1 ne1 fun G2 s1 ch1 => ⟨rfl, ?_⟩
      refine stop_aT fun b G3 nb s3 hb => ?_
      refine O.step (ch1.same s3) hb (sh_ab fun s hs => List.mem_cons.mpr (.inl (List.mem_singleton.mp hs))) (by show 1 ≤ 6; decide) fun x2 G4 n2 s4 ch2 => ?_
      refine swap_abT fun b5 G5 s5 hb5 => ?_
      refine O.step (ch2.same s5) hb5 (sh_ab fun s hs => hs) (by show 2 ≤ 6; decide) fun x3 G6 n3 s6 ch3 => ?_
      intro x4 dx4 hx4 hdx4 ne4
      refine nilA O hx4 hdx4 ne4 fun G7 s7 ch4 => ⟨rfl, ?_⟩
      refine swap_abT fun b8 G8 s8 hb8 => ?_
      refine O.step (ch4.same s8) hb8 (sh_ab fun s hs => List.mem_cons.mpr (.inr hs)) (by show 1 ≤ 6; decide) fun x9 G9 n9 s9 ch9 => ?_
      refine stop_aT fun b G10 nb s10 hb10 => ?_
      refine O.step (ch9.same s10) hb10 (sh_ab fun s hs => (List.mem_cons.mp hs).elim (fun e => by rw [e]; exact List.mem_cons_of_mem _ (List.mem_singleton.mpr rfl)) fun h => List.mem_cons.mpr (.inl (List.mem_singleton.mp h))) (by show 2 ≤ 6; decide) fun x11 G11 n11 s11 ch11 => ?_
      refine ⟨_, _, rfl, ?_⟩
      obtain ⟨dx, fs, i1, i2⟩ := ch3.ins2
      obtain ⟨dy, gs, j1, j2⟩ := ch11.ins2
      have s611 : Same G6 G11 := s7.trans (s8.trans (s9.trans (s10.trans s11)))
      refine ⟨_, rfl, x3, dx, fs, rfl, s611 _ _ i1, i2, x3, _, _, rfl, ch3.same s611, any_ab in_ab, a_word, by show 1 ≤ 1000; decide, fun G12 s12 => ?_⟩
      rw [one_a]
      refine ⟨_, rfl, x11, dy, gs, rfl, s12 _ _ j1, j2, x11, _, _, rfl, ch11.same s12, any_ab in_ba, a_word, by show 1 ≤ 1000; decide, fun G13 s13 => ?_⟩
      rw [other_a]
      refine ⟨_, rfl, x11, dy, gs, rfl, (s12.trans s13) _ _ j1, j2, x11, _, _, rfl, ch11.same (s12.trans s13), any_ab in_ba, b_word, by show 1 ≤ 1000; decide, fun G14 s14 => ?_⟩
      rw [other_b]
      refine ⟨by show 3 ≤ sizeLine; decide, fun A1 G15 n15 s15 h15 => ⟨by show 3 ≤ sizeLine; decide, fun A2 G16 n16 s16 h16 => ⟨⟨A1, A2, _, _, rfl, rfl, s16 _ _ h15, h16, ?_⟩, fun _ _ => k _⟩⟩⟩
      exact .cons ⟨rfl, rfl, rfl⟩ (.cons ⟨rfl, rfl, rfl⟩ (.cons ⟨rfl, rfl, rfl⟩ .nil))
end
end K07
set_option Elab.async false
set_option linter.all false
set_option maxRecDepth 100000
set_option maxHeartbeats 4000000
/-! What the end of a law's text asks of classes, one bit each. -/
namespace Qyb
open PySem PySem.Spec PyProof.Rows L2 TL Qh Qi Ql ClX Qmk
/-- a class whose instances have fields, its names that no class has -/
def insB (K : PySem.W.Frag) (C : Addr) (xs : List Str) : Bool := ((PySem.W.plainGet K C Str.empty && PySem.W.hasDictIn K C) && (PySem.W.plainOver K C && decide (PySem.W.findIn K (.ref C) "__setattr__" = some (some (.builtin "object.__setattr__"))))) &&
  ((decide (PySem.W.findIn K (.ref C) "__class__" = some (some (.builtin "object.__class__"))) && decide (PySem.W.specialIn K (.builtin "object.__class__") "__get__" = some (some (.builtin "getset_descriptor.__get__")))) && ((decide (PySem.W.takesIn K (.builtin "object.__class__") = some true) && decide (PySem.W.mroIn K C (.type "object") = some true)) && xs.all fun x => decide (PySem.W.findIn K (.ref C) x = some none)))
theorem insB_ok {K : PySem.W.Frag} {C : Addr} {xs : List Str} (h : insB K C xs = true) : InsT K C ∧ ∀ x ∈ xs, NoAttr K C x := by
  unfold insB at h
  simp only [Bool.and_eq_true, decide_eq_true_eq, List.all_eq_true] at h
  obtain ⟨⟨⟨a1, a2⟩, a3, a4⟩, ⟨a5, a6⟩, ⟨a7, a8⟩, a9⟩ := h
  exact ⟨⟨⟨a1, a2, a3, a4⟩, a5, a6, a7, a8⟩, a9⟩
/-- it is made by its own __init__, and is kept -/
def mkB (K : PySem.W.Frag) (C : Addr) : Bool := PySem.W.makesIn K C && PySem.W.keepIn K (.ref C)
theorem mkB_ok {K : PySem.W.Frag} {C f : Addr} (h : mkB K C = true) (a : PySem.W.findIn K (.ref C) "__init__" = some (some (.ref f))) (t : PySem.W.typeIn K (.ref f) = some (.type "function")) : Mk K C f := by
  unfold mkB at h
  rw [Bool.and_eq_true] at h
  exact ⟨h.1, a, beq_iff_eq.mpr t, h.2⟩
/-- its own names are read as those of a class -/
def readB (K : PySem.W.Frag) (C : Addr) : Bool := PySem.W.readsIn K C (.type "type") && decide (PySem.W.specialIn K (.ref C) "__getattribute__" = some (some (.builtin "type.__getattribute__")))
theorem readB_ok {K : PySem.W.Frag} {C : Addr} (h : readB K C = true) : PySem.W.readsIn K C (.type "type") = true ∧ PySem.W.specialIn K (.ref C) "__getattribute__" = some (some (.builtin "type.__getattribute__")) := by
  unfold readB at h
  simp only [Bool.and_eq_true, decide_eq_true_eq] at h
  exact h
/-- a number of the class -/
def numB (K : PySem.W.Frag) (C : Addr) (x : Str) (n : Int) : Bool := match PySem.W.findCls K (.ref C) (.type "type") x with
  | some (.val (.int i _)) => i == n
  | _ => false
theorem numB_ok {K : PySem.W.Frag} {C : Addr} {x : Str} {n : Int} (h : numB K C x n = true) (r : readB K C = true) : ∃ mc u, CRead K C mc ∧ CVal K C mc x (.int n) u := by
  obtain ⟨rd, ga⟩ := readB_ok r
  unfold numB at h
  split at h
  · rename_i i t e
    have h := beq_iff_eq.mp h
    subst h
    exact ⟨.type "type", _, ⟨rd, ga⟩, ⟨e, ⟨t, rfl⟩⟩⟩
  · cases h
/-- what isinstance tells of classes -/
def kitsB (K : PySem.W.Frag) (l : List (Addr × Addr × Bool)) : Bool := l.all fun q => decide (PySem.W.kitOne K (.ref q.1) (.ref q.2.1) = some q.2.2)
theorem kitsB_ok {K : PySem.W.Frag} {l : List (Addr × Addr × Bool)} (h : kitsB K l = true) (i : Nat) {a b : Addr} {v : Bool} (m : l[i]? = some (a, b, v)) : PySem.W.kitOne K (.ref a) (.ref b) = some v := by
  unfold kitsB at h
  have := List.all_eq_true.mp h _ (List.mem_of_getElem? m)
  exact of_decide_eq_true this
end Qyb
set_option Elab.async false
set_option linter.all false
set_option maxRecDepth 100000
set_option maxHeartbeats 4000000
namespace K07
open PySem PySem.Spec PyProof.Rows L2 TL Qh Qi Ql Qp ClX Qmk Qmg Qde Qtb Qtd RT Qcm Qop Qyb Qu NdefX
abbrev sInitD : Stmt := inClass (top 29) 0
end K07
namespace K07
open PySem PySem.Spec PyProof.Rows L2 TL Qh Qi Ql Qp ClX Qmk Qmg Qde Qtb Qtd RT Qcm Qop Qyb Qu NdefX
theorem all_mk {l : PySem.W.OpenLaw} {w : World} {K : PySem.W.Frag} {h : Heap} {mg : Str → Option Value} {fa : Addr} (X : K.In h) (G : h.Ns mainGlobals mg) (hfa : mg "law" = some (.ref fa))
    {tA tB tC tH : _}
    {fD cc cda : Addr} {ocD dcD pmD ctD ccl cl2 : Value} {odD cdd cld : Option Addr} {slD ccs csl : Array (Option Value)} {vsC : Array Value} {file : Str} {tf : Tok} {cdD : ClassData}
    {f1 : Addr} {oc1 kV1 dc1 pm1 cd1 ct1 : Value} {od1 an1 : Option Addr} {sl1 : Array (Option Value)}
    {f2 : Addr} {oc2 kV2 dc2 pm2 cd2 ct2 : Value} {od2 an2 : Option Addr} {sl2 : Array (Option Value)}
    {f3 : Addr} {oc3 kV3 dc3 pm3 cd3 ct3 : Value} {od3 an3 : Option Addr} {sl3 : Array (Option Value)}
    {f4 : Addr} {oc4 kV4 dc4 pm4 cd4 ct4 : Value} {od4 an4 : Option Addr} {sl4 : Array (Option Value)}
    {f5 : Addr} {oc5 kV5 dc5 pm5 cd5 ct5 : Value} {od5 an5 : Option Addr} {sl5 : Array (Option Value)}
    {f6 : Addr} {oc6 kV6 dc6 pm6 cd6 ct6 : Value} {od6 an6 : Option Addr} {sl6 : Array (Option Value)}
    {f7 : Addr} {oc7 kV7 dc7 pm7 cd7 ct7 : Value} {od7 an7 : Option Addr} {sl7 : Array (Option Value)}
    {f8 : Addr} {oc8 kV8 dc8 pm8 cd8 ct8 : Value} {od8 an8 : Option Addr} {sl8 : Array (Option Value)}
    {f9 : Addr} {oc9 kV9 dc9 pm9 cd9 ct9 : Value} {od9 an9 : Option Addr} {sl9 : Array (Option Value)}
    {f10 : Addr} {oc10 kV10 dc10 pm10 cd10 ct10 : Value} {od10 an10 : Option Addr} {sl10 : Array (Option Value)}
    {f11 : Addr} {oc11 kV11 dc11 pm11 cd11 ct11 : Value} {od11 an11 : Option Addr} {sl11 : Array (Option Value)}
    {f12 : Addr} {oc12 kV12 dc12 pm12 cd12 ct12 : Value} {od12 an12 : Option Addr} {sl12 : Array (Option Value)}
    {f13 : Addr} {oc13 kV13 dc13 pm13 cd13 ct13 : Value} {od13 an13 : Option Addr} {sl13 : Array (Option Value)}
    {f14 : Addr} {oc14 kV14 dc14 pm14 cd14 ct14 : Value} {od14 an14 : Option Addr} {sl14 : Array (Option Value)}
    {f15 : Addr} {oc15 kV15 dc15 pm15 cd15 ct15 : Value} {od15 an15 : Option Addr} {sl15 : Array (Option Value)}
    {f16 : Addr} {oc16 kV16 dc16 pm16 cd16 ct16 : Value} {od16 an16 : Option Addr} {sl16 : Array (Option Value)}
    {f17 : Addr} {oc17 kV17 dc17 pm17 cd17 ct17 : Value} {od17 an17 : Option Addr} {sl17 : Array (Option Value)}
    {f18 : Addr} {oc18 kV18 dc18 pm18 cd18 ct18 : Value} {od18 an18 : Option Addr} {sl18 : Array (Option Value)}
    {f19 : Addr} {oc19 kV19 dc19 pm19 cd19 ct19 : Value} {od19 an19 : Option Addr} {sl19 : Array (Option Value)}
    {f20 : Addr} {oc20 kV20 dc20 pm20 cd20 ct20 : Value} {od20 an20 : Option Addr} {sl20 : Array (Option Value)}
    {f21 : Addr} {oc21 kV21 dc21 pm21 cd21 ct21 : Value} {od21 an21 : Option Addr} {sl21 : Array (Option Value)}
    {f22 : Addr} {oc22 kV22 dc22 pm22 cd22 ct22 : Value} {od22 an22 : Option Addr} {sl22 : Array (Option Value)}
    {f23 : Addr} {oc23 kV23 dc23 pm23 cd23 ct23 : Value} {od23 an23 : Option Addr} {sl23 : Array (Option Value)}
    {f24 : Addr} {oc24 kV24 dc24 pm24 cd24 ct24 : Value} {od24 an24 : Option Addr} {sl24 : Array (Option Value)}
    {f25 : Addr} {oc25 kV25 dc25 pm25 cd25 ct25 : Value} {od25 an25 : Option Addr} {sl25 : Array (Option Value)}
    {f26 : Addr} {oc26 kV26 dc26 pm26 cd26 ct26 : Value} {od26 an26 : Option Addr} {sl26 : Array (Option Value)}
    {f27 : Addr} {oc27 kV27 dc27 pm27 cd27 ct27 : Value} {od27 an27 : Option Addr} {sl27 : Array (Option Value)}
    {f28 : Addr} {oc28 kV28 dc28 pm28 cd28 ct28 : Value} {od28 an28 : Option Addr} {sl28 : Array (Option Value)}
    {CE : Addr}
    {f29 : Addr} {oc29 kV29 dc29 pm29 cd29 ct29 : Value} {od29 an29 : Option Addr} {sl29 : Array (Option Value)}
    {CS : Addr}
    {CD : Addr}
    {CW : Addr}
    {CM : Addr}
    {CA : Addr}
    {CT : Addr}
    {CC : Addr}
    {f30 : Addr} {oc30 kV30 dc30 pm30 cd30 ct30 : Value} {od30 an30 : Option Addr} {sl30 : Array (Option Value)}
    {f31 : Addr} {oc31 kV31 dc31 pm31 cd31 ct31 : Value} {od31 an31 : Option Addr} {sl31 : Array (Option Value)}
    {f32 : Addr} {oc32 kV32 dc32 pm32 cd32 ct32 : Value} {od32 an32 : Option Addr} {sl32 : Array (Option Value)}
    {f33 : Addr} {oc33 kV33 dc33 pm33 cd33 ct33 : Value} {od33 an33 : Option Addr} {sl33 : Array (Option Value)}
    {f34 : Addr} {oc34 kV34 dc34 pm34 cd34 ct34 : Value} {od34 an34 : Option Addr} {sl34 : Array (Option Value)}
    {f35 : Addr} {oc35 kV35 dc35 pm35 cd35 ct35 : Value} {od35 an35 : Option Addr} {sl35 : Array (Option Value)}
    {f36 : Addr} {oc36 kV36 dc36 pm36 cd36 ct36 : Value} {od36 an36 : Option Addr} {sl36 : Array (Option Value)}
    {f37 : Addr} {oc37 kV37 dc37 pm37 cd37 ct37 : Value} {od37 an37 : Option Addr} {sl37 : Array (Option Value)}
    {f38 : Addr} {oc38 kV38 dc38 pm38 cd38 ct38 : Value} {od38 an38 : Option Addr} {sl38 : Array (Option Value)}
    {f39 : Addr} {oc39 kV39 dc39 pm39 cd39 ct39 : Value} {od39 an39 : Option Addr} {sl39 : Array (Option Value)}
    {f40 : Addr} {oc40 kV40 dc40 pm40 cd40 ct40 : Value} {od40 an40 : Option Addr} {sl40 : Array (Option Value)}
    {f41 : Addr} {oc41 kV41 dc41 pm41 cd41 ct41 : Value} {od41 an41 : Option Addr} {sl41 : Array (Option Value)}
    {f42 : Addr} {oc42 kV42 dc42 pm42 cd42 ct42 : Value} {od42 an42 : Option Addr} {sl42 : Array (Option Value)}
    {f43 : Addr} {oc43 kV43 dc43 pm43 cd43 ct43 : Value} {od43 an43 : Option Addr} {sl43 : Array (Option Value)}
    {f44 : Addr} {oc44 kV44 dc44 pm44 cd44 ct44 : Value} {od44 an44 : Option Addr} {sl44 : Array (Option Value)}
    {f45 : Addr} {oc45 kV45 dc45 pm45 cd45 ct45 : Value} {od45 an45 : Option Addr} {sl45 : Array (Option Value)}
    {f46 : Addr} {oc46 kV46 dc46 pm46 cd46 ct46 : Value} {od46 an46 : Option Addr} {sl46 : Array (Option Value)}
    {f47 : Addr} {oc47 kV47 dc47 pm47 cd47 ct47 : Value} {od47 an47 : Option Addr} {sl47 : Array (Option Value)}
    {pc48 : Addr}
    {rc48 : List Value}
    {f48 : Addr} {oc48 kV48 dc48 pm48 cd48 ct48 : Value} {od48 an48 : Option Addr} {sl48 : Array (Option Value)}
    (a1 : PySem.W.nsIn K mainGlobals "is_letters" = some (some (.ref f1))) (l1 : K.lookup f1 = some ⟨oc1, od1, .func (PySem.W.fnOf "is_letters" "is_letters" (defArgs sLetters) (defBody sLetters) (defScope sLetters) .none kV1 dc1 pm1 an1 cd1 ct1), sl1⟩) (c1 : PySem.W.codeIn K cd1 "is_letters" = true) (k1 : PySem.W.keepIn K (.ref f1) = true)
    (a2 : PySem.W.nsIn K mainGlobals "is_word" = some (some (.ref f2))) (l2 : K.lookup f2 = some ⟨oc2, od2, .func (PySem.W.fnOf "is_word" "is_word" (defArgs sIsWord) (defBody sIsWord) (defScope sIsWord) .none kV2 dc2 pm2 an2 cd2 ct2), sl2⟩) (c2 : PySem.W.codeIn K cd2 "is_word" = true) (k2 : PySem.W.keepIn K (.ref f2) = true)
    (a3 : PySem.W.nsIn K mainGlobals "ascending" = some (some (.ref f3))) (l3 : K.lookup f3 = some ⟨oc3, od3, .func (PySem.W.fnOf "ascending" "ascending" (defArgs sAsc) (defBody sAsc) (defScope sAsc) .none kV3 dc3 pm3 an3 cd3 ct3), sl3⟩) (c3 : PySem.W.codeIn K cd3 "ascending" = true) (k3 : PySem.W.keepIn K (.ref f3) = true)
    (a4 : PySem.W.nsIn K mainGlobals "is_ending" = some (some (.ref f4))) (l4 : K.lookup f4 = some ⟨oc4, od4, .func (PySem.W.fnOf "is_ending" "is_ending" (defArgs sIsEnding) (defBody sIsEnding) (defScope sIsEnding) .none kV4 dc4 pm4 an4 cd4 ct4), sl4⟩) (c4 : PySem.W.codeIn K cd4 "is_ending" = true) (k4 : PySem.W.keepIn K (.ref f4) = true)
    (a5 : PySem.W.nsIn K mainGlobals "is_keep" = some (some (.ref f5))) (l5 : K.lookup f5 = some ⟨oc5, od5, .func (PySem.W.fnOf "is_keep" "is_keep" (defArgs sIsKeep) (defBody sIsKeep) (defScope sIsKeep) .none kV5 dc5 pm5 an5 cd5 ct5), sl5⟩) (c5 : PySem.W.codeIn K cd5 "is_keep" = true) (k5 : PySem.W.keepIn K (.ref f5) = true)
    (a6 : PySem.W.nsIn K mainGlobals "ascending_pairs" = some (some (.ref f6))) (l6 : K.lookup f6 = some ⟨oc6, od6, .func (PySem.W.fnOf "ascending_pairs" "ascending_pairs" (defArgs Sw.sAscP) (defBody Sw.sAscP) (defScope Sw.sAscP) .none kV6 dc6 pm6 an6 cd6 ct6), sl6⟩) (c6 : PySem.W.codeIn K cd6 "ascending_pairs" = true) (k6 : PySem.W.keepIn K (.ref f6) = true)
    (a7 : PySem.W.nsIn K mainGlobals "changes_of" = some (some (.ref f7))) (l7 : K.lookup f7 = some ⟨oc7, od7, .func (PySem.W.fnOf "changes_of" "changes_of" (defArgs sChanges) (defBody sChanges) (defScope sChanges) .none kV7 dc7 pm7 an7 cd7 ct7), sl7⟩) (c7 : PySem.W.codeIn K cd7 "changes_of" = true) (k7 : PySem.W.keepIn K (.ref f7) = true)
    (a8 : PySem.W.nsIn K mainGlobals "composed" = some (some (.ref f8))) (l8 : K.lookup f8 = some ⟨oc8, od8, .func (PySem.W.fnOf "composed" "composed" (defArgs sComposed) (defBody sComposed) (defScope sComposed) .none kV8 dc8 pm8 an8 cd8 ct8), sl8⟩) (c8 : PySem.W.codeIn K cd8 "composed" = true) (k8 : PySem.W.keepIn K (.ref f8) = true)
    (a9 : PySem.W.nsIn K mainGlobals "check_steps" = some (some (.ref f9))) (l9 : K.lookup f9 = some ⟨oc9, od9, .func (PySem.W.fnOf "check_steps" "check_steps" (defArgs sCheck) (defBody sCheck) (defScope sCheck) .none kV9 dc9 pm9 an9 cd9 ct9), sl9⟩) (c9 : PySem.W.codeIn K cd9 "check_steps" = true) (k9 : PySem.W.keepIn K (.ref f9) = true)
    (a10 : PySem.W.nsIn K mainGlobals "check_drop" = some (some (.ref f10))) (l10 : K.lookup f10 = some ⟨oc10, od10, .func (PySem.W.fnOf "check_drop" "check_drop" (defArgs sChkDrop) (defBody sChkDrop) (defScope sChkDrop) .none kV10 dc10 pm10 an10 cd10 ct10), sl10⟩) (c10 : PySem.W.codeIn K cd10 "check_drop" = true) (k10 : PySem.W.keepIn K (.ref f10) = true)
    (a11 : PySem.W.nsIn K mainGlobals "check_sides" = some (some (.ref f11))) (l11 : K.lookup f11 = some ⟨oc11, od11, .func (PySem.W.fnOf "check_sides" "check_sides" (defArgs sChkSides) (defBody sChkSides) (defScope sChkSides) .none kV11 dc11 pm11 an11 cd11 ct11), sl11⟩) (c11 : PySem.W.codeIn K cd11 "check_sides" = true) (k11 : PySem.W.keepIn K (.ref f11) = true)
    (a12 : PySem.W.nsIn K mainGlobals "each_once" = some (some (.ref f12))) (l12 : K.lookup f12 = some ⟨oc12, od12, .func (PySem.W.fnOf "each_once" "each_once" (defArgs sEach) (defBody sEach) (defScope sEach) .none kV12 dc12 pm12 an12 cd12 ct12), sl12⟩) (c12 : PySem.W.codeIn K cd12 "each_once" = true) (k12 : PySem.W.keepIn K (.ref f12) = true)
    (a13 : PySem.W.nsIn K mainGlobals "meetings_of" = some (some (.ref f13))) (l13 : K.lookup f13 = some ⟨oc13, od13, .func (PySem.W.fnOf "meetings_of" "meetings_of" (defArgs sMeet) (defBody sMeet) (defScope sMeet) .none kV13 dc13 pm13 an13 cd13 ct13), sl13⟩) (c13 : PySem.W.codeIn K cd13 "meetings_of" = true) (k13 : PySem.W.keepIn K (.ref f13) = true)
    (a14 : PySem.W.nsIn K mainGlobals "begins_of" = some (some (.ref f14))) (l14 : K.lookup f14 = some ⟨oc14, od14, .func (PySem.W.fnOf "begins_of" "begins_of" (defArgs sBegins) (defBody sBegins) (defScope sBegins) .none kV14 dc14 pm14 an14 cd14 ct14), sl14⟩) (c14 : PySem.W.codeIn K cd14 "begins_of" = true) (k14 : PySem.W.keepIn K (.ref f14) = true)
    (a15 : PySem.W.nsIn K mainGlobals "_law_pen" = some (some (.ref f15))) (l15 : K.lookup f15 = some ⟨oc15, od15, .func (PySem.W.fnOf "_law_pen" "_law_pen" (defArgs sPen) (defBody sPen) (defScope sPen) .none kV15 dc15 pm15 an15 cd15 ct15), sl15⟩) (c15 : PySem.W.codeIn K cd15 "_law_pen" = true) (k15 : PySem.W.keepIn K (.ref f15) = true)
    (a16 : PySem.W.nsIn K mainGlobals "_law_draw" = some (some (.ref f16))) (l16 : K.lookup f16 = some ⟨oc16, od16, .func (PySem.W.fnOf "_law_draw" "_law_draw" (defArgs sDraw) (defBody sDraw) (defScope sDraw) .none kV16 dc16 pm16 an16 cd16 ct16), sl16⟩) (c16 : PySem.W.codeIn K cd16 "_law_draw" = true) (k16 : PySem.W.keepIn K (.ref f16) = true)
    (a17 : PySem.W.nsIn K mainGlobals "_law_pick" = some (some (.ref f17))) (l17 : K.lookup f17 = some ⟨oc17, od17, .func (PySem.W.fnOf "_law_pick" "_law_pick" (defArgs sPick) (defBody sPick) (defScope sPick) .none kV17 dc17 pm17 an17 cd17 ct17), sl17⟩) (c17 : PySem.W.codeIn K cd17 "_law_pick" = true) (k17 : PySem.W.keepIn K (.ref f17) = true)
    (a18 : PySem.W.nsIn K mainGlobals "_law_pool" = some (some (.ref f18))) (l18 : K.lookup f18 = some ⟨oc18, od18, .func (PySem.W.fnOf "_law_pool" "_law_pool" (defArgs sPool) (defBody sPool) (defScope sPool) .none kV18 dc18 pm18 an18 cd18 ct18), sl18⟩) (c18 : PySem.W.codeIn K cd18 "_law_pool" = true) (k18 : PySem.W.keepIn K (.ref f18) = true)
    (a19 : PySem.W.nsIn K mainGlobals "_law_some" = some (some (.ref f19))) (l19 : K.lookup f19 = some ⟨oc19, od19, .func (PySem.W.fnOf "_law_some" "_law_some" (defArgs sSome) (defBody sSome) (defScope sSome) .none kV19 dc19 pm19 an19 cd19 ct19), sl19⟩) (c19 : PySem.W.codeIn K cd19 "_law_some" = true) (k19 : PySem.W.keepIn K (.ref f19) = true)
    (a20 : PySem.W.nsIn K mainGlobals "_law_step" = some (some (.ref f20))) (l20 : K.lookup f20 = some ⟨oc20, od20, .func (PySem.W.fnOf "_law_step" "_law_step" (defArgs sStep) (defBody sStep) (defScope sStep) .none kV20 dc20 pm20 an20 cd20 ct20), sl20⟩) (c20 : PySem.W.codeIn K cd20 "_law_step" = true) (k20 : PySem.W.keepIn K (.ref f20) = true)
    (a21 : PySem.W.nsIn K mainGlobals "_law_steps" = some (some (.ref f21))) (l21 : K.lookup f21 = some ⟨oc21, od21, .func (PySem.W.fnOf "_law_steps" "_law_steps" (defArgs sSteps) (defBody sSteps) (defScope sSteps) .none kV21 dc21 pm21 an21 cd21 ct21), sl21⟩) (c21 : PySem.W.codeIn K cd21 "_law_steps" = true) (k21 : PySem.W.keepIn K (.ref f21) = true)
    (a22 : PySem.W.nsIn K mainGlobals "_law_stepped" = some (some (.ref f22))) (l22 : K.lookup f22 = some ⟨oc22, od22, .func (PySem.W.fnOf "_law_stepped" "_law_stepped" (defArgs sStepped) (defBody sStepped) (defScope sStepped) .none kV22 dc22 pm22 an22 cd22 ct22), sl22⟩) (c22 : PySem.W.codeIn K cd22 "_law_stepped" = true) (k22 : PySem.W.keepIn K (.ref f22) = true)
    (a23 : PySem.W.nsIn K mainGlobals "_law_result" = some (some (.ref f23))) (l23 : K.lookup f23 = some ⟨oc23, od23, .func (PySem.W.fnOf "_law_result" "_law_result" (defArgs sResult) (defBody sResult) (defScope sResult) .none kV23 dc23 pm23 an23 cd23 ct23), sl23⟩) (c23 : PySem.W.codeIn K cd23 "_law_result" = true) (k23 : PySem.W.keepIn K (.ref f23) = true)
    (a24 : PySem.W.nsIn K mainGlobals "_law_made_step" = some (some (.ref f24))) (l24 : K.lookup f24 = some ⟨oc24, od24, .func (PySem.W.fnOf "_law_made_step" "_law_made_step" (defArgs sMadeStep) (defBody sMadeStep) (defScope sMadeStep) .none kV24 dc24 pm24 an24 cd24 ct24), sl24⟩) (c24 : PySem.W.codeIn K cd24 "_law_made_step" = true) (k24 : PySem.W.keepIn K (.ref f24) = true)
    (a25 : PySem.W.nsIn K mainGlobals "_law_chain" = some (some (.ref f25))) (l25 : K.lookup f25 = some ⟨oc25, od25, .func (PySem.W.fnOf "_law_chain" "_law_chain" (defArgs sLawChain) (defBody sLawChain) (defScope sLawChain) .none kV25 dc25 pm25 an25 cd25 ct25), sl25⟩) (c25 : PySem.W.codeIn K cd25 "_law_chain" = true) (k25 : PySem.W.keepIn K (.ref f25) = true)
    (a26 : PySem.W.nsIn K mainGlobals "_law_words" = some (some (.ref f26))) (l26 : K.lookup f26 = some ⟨oc26, od26, .func (PySem.W.fnOf "_law_words" "_law_words" (defArgs sLawWords) (defBody sLawWords) (defScope sLawWords) .none kV26 dc26 pm26 an26 cd26 ct26), sl26⟩) (c26 : PySem.W.codeIn K cd26 "_law_words" = true) (k26 : PySem.W.keepIn K (.ref f26) = true)
    (a27 : PySem.W.nsIn K mainGlobals "_law_by_steps" = some (some (.ref f27))) (l27 : K.lookup f27 = some ⟨oc27, od27, .func (PySem.W.fnOf "_law_by_steps" "_law_by_steps" (defArgs sByStep) (defBody sByStep) (defScope sByStep) .none kV27 dc27 pm27 an27 cd27 ct27), sl27⟩) (c27 : PySem.W.codeIn K cd27 "_law_by_steps" = true) (k27 : PySem.W.keepIn K (.ref f27) = true)
    (a28 : PySem.W.nsIn K mainGlobals "law" = some (some (.ref f28))) (l28 : K.lookup f28 = some ⟨oc28, od28, .func (PySem.W.fnOf "law" "law" (defArgs sLaw) (defBody sLaw) (defScope sLaw) .none kV28 dc28 pm28 an28 cd28 ct28), sl28⟩) (c28 : PySem.W.codeIn K cd28 "law" = true) (k28 : PySem.W.keepIn K (.ref f28) = true)
    (gCE : PySem.W.nsIn K mainGlobals "InvalidStep" = some (some (.ref CE)))
    (a29 : PySem.W.findIn K (.ref CE) "__init__" = some (some (.ref f29))) (t29 : PySem.W.typeIn K (.ref f29) = some (.type "function")) (l29 : K.lookup f29 = some ⟨oc29, od29, .func (PySem.W.fnOf "__init__" "InvalidStep.__init__" (defArgs sErrInit) (defBody sErrInit) (defScope sErrInit) .none kV29 dc29 pm29 an29 cd29 ct29), sl29⟩) (c29 : PySem.W.codeIn K cd29 "InvalidStep.__init__" = true) (k29 : PySem.W.keepIn K (.ref f29) = true)
    (x1CE : oexB K CE = true)
    (x2CE : oex2B K CE = true)
    (x3CE : xfB K CE = true)
    (x4CE : ecB K CE = true)
    (gCS : PySem.W.nsIn K mainGlobals "Stop" = some (some (.ref CS)))
    (gCD : PySem.W.nsIn K mainGlobals "Drop" = some (some (.ref CD)))
    (gCW : PySem.W.nsIn K mainGlobals "Swap" = some (some (.ref CW)))
    (gCM : PySem.W.nsIn K mainGlobals "Stem" = some (some (.ref CM)))
    (gCA : PySem.W.nsIn K mainGlobals "Same" = some (some (.ref CA)))
    (gCT : PySem.W.nsIn K mainGlobals "Turning" = some (some (.ref CT)))
    (gCC : PySem.W.nsIn K mainGlobals "Chain" = some (some (.ref CC)))
    (a30 : PySem.W.findIn K (.ref CS) "__init__" = some (some (.ref f30))) (t30 : PySem.W.typeIn K (.ref f30) = some (.type "function")) (l30 : K.lookup f30 = some ⟨oc30, od30, .func (PySem.W.fnOf "__init__" "Stop.__init__" (defArgs Sp.sInit) (defBody Sp.sInit) (defScope Sp.sInit) .none kV30 dc30 pm30 an30 cd30 ct30), sl30⟩) (c30 : PySem.W.codeIn K cd30 "Stop.__init__" = true) (k30 : PySem.W.keepIn K (.ref f30) = true)
    (a31 : PySem.W.findIn K (.ref CM) "__init__" = some (some (.ref f31))) (t31 : PySem.W.typeIn K (.ref f31) = some (.type "function")) (l31 : K.lookup f31 = some ⟨oc31, od31, .func (PySem.W.fnOf "__init__" "Stem.__init__" (defArgs Sm.sInit) (defBody Sm.sInit) (defScope Sm.sInit) .none kV31 dc31 pm31 an31 cd31 ct31), sl31⟩) (c31 : PySem.W.codeIn K cd31 "Stem.__init__" = true) (k31 : PySem.W.keepIn K (.ref f31) = true)
    (a32 : PySem.W.findIn K (.ref CW) "__init__" = some (some (.ref f32))) (t32 : PySem.W.typeIn K (.ref f32) = some (.type "function")) (l32 : K.lookup f32 = some ⟨oc32, od32, .func (PySem.W.fnOf "__init__" "Swap.__init__" (defArgs Sw.sInit) (defBody Sw.sInit) (defScope Sw.sInit) .none kV32 dc32 pm32 an32 cd32 ct32), sl32⟩) (c32 : PySem.W.codeIn K cd32 "Swap.__init__" = true) (k32 : PySem.W.keepIn K (.ref f32) = true)
    (a33 : PySem.W.findIn K (.ref CT) "__init__" = some (some (.ref f33))) (t33 : PySem.W.typeIn K (.ref f33) = some (.type "function")) (l33 : K.lookup f33 = some ⟨oc33, od33, .func (PySem.W.fnOf "__init__" "Turning.__init__" (defArgs sTurnInit) (defBody sTurnInit) (defScope sTurnInit) .none kV33 dc33 pm33 an33 cd33 ct33), sl33⟩) (c33 : PySem.W.codeIn K cd33 "Turning.__init__" = true) (k33 : PySem.W.keepIn K (.ref f33) = true)
    (a34 : PySem.W.findIn K (.ref CC) "__init__" = some (some (.ref f34))) (t34 : PySem.W.typeIn K (.ref f34) = some (.type "function")) (l34 : K.lookup f34 = some ⟨oc34, od34, .func (PySem.W.fnOf "__init__" "Chain.__init__" (defArgs sChainInit) (defBody sChainInit) (defScope sChainInit) .none kV34 dc34 pm34 an34 cd34 ct34), sl34⟩) (c34 : PySem.W.codeIn K cd34 "Chain.__init__" = true) (k34 : PySem.W.keepIn K (.ref f34) = true)
    (a35 : PySem.W.findIn K (.ref CS) "result" = some (some (.ref f35))) (t35 : PySem.W.typeIn K (.ref f35) = some (.type "function")) (l35 : K.lookup f35 = some ⟨oc35, od35, .func (PySem.W.fnOf "result" "Stop.result" (defArgs Sp.sResS) (defBody Sp.sResS) (defScope Sp.sResS) .none kV35 dc35 pm35 an35 cd35 ct35), sl35⟩) (c35 : PySem.W.codeIn K cd35 "Stop.result" = true) (k35 : PySem.W.keepIn K (.ref f35) = true)
    (a36 : PySem.W.findIn K (.ref CD) "result" = some (some (.ref f36))) (t36 : PySem.W.typeIn K (.ref f36) = some (.type "function")) (l36 : K.lookup f36 = some ⟨oc36, od36, .func (PySem.W.fnOf "result" "Drop.result" (defArgs Sp.sResD) (defBody Sp.sResD) (defScope Sp.sResD) .none kV36 dc36 pm36 an36 cd36 ct36), sl36⟩) (c36 : PySem.W.codeIn K cd36 "Drop.result" = true) (k36 : PySem.W.keepIn K (.ref f36) = true)
    (a37 : PySem.W.findIn K (.ref CW) "result" = some (some (.ref f37))) (t37 : PySem.W.typeIn K (.ref f37) = some (.type "function")) (l37 : K.lookup f37 = some ⟨oc37, od37, .func (PySem.W.fnOf "result" "Swap.result" (defArgs Sw.sResult) (defBody Sw.sResult) (defScope Sw.sResult) .none kV37 dc37 pm37 an37 cd37 ct37), sl37⟩) (c37 : PySem.W.codeIn K cd37 "Swap.result" = true) (k37 : PySem.W.keepIn K (.ref f37) = true)
    (a38 : PySem.W.findIn K (.ref CM) "result" = some (some (.ref f38))) (t38 : PySem.W.typeIn K (.ref f38) = some (.type "function")) (l38 : K.lookup f38 = some ⟨oc38, od38, .func (PySem.W.fnOf "result" "Stem.result" (defArgs Sm.sResult) (defBody Sm.sResult) (defScope Sm.sResult) .none kV38 dc38 pm38 an38 cd38 ct38), sl38⟩) (c38 : PySem.W.codeIn K cd38 "Stem.result" = true) (k38 : PySem.W.keepIn K (.ref f38) = true)
    (a39 : PySem.W.findIn K (.ref CT) "result" = some (some (.ref f39))) (t39 : PySem.W.typeIn K (.ref f39) = some (.type "function")) (l39 : K.lookup f39 = some ⟨oc39, od39, .func (PySem.W.fnOf "result" "Turning.result" (defArgs sTurnRes) (defBody sTurnRes) (defScope sTurnRes) .none kV39 dc39 pm39 an39 cd39 ct39), sl39⟩) (c39 : PySem.W.codeIn K cd39 "Turning.result" = true) (k39 : PySem.W.keepIn K (.ref f39) = true)
    (a40 : PySem.W.findIn K (.ref CC) "result" = some (some (.ref f40))) (t40 : PySem.W.typeIn K (.ref f40) = some (.type "function")) (l40 : K.lookup f40 = some ⟨oc40, od40, .func (PySem.W.fnOf "result" "Chain.result" (defArgs sChRes) (defBody sChRes) (defScope sChRes) .none kV40 dc40 pm40 an40 cd40 ct40), sl40⟩) (c40 : PySem.W.codeIn K cd40 "Chain.result" = true) (k40 : PySem.W.keepIn K (.ref f40) = true)
    (a41 : PySem.W.findIn K (.ref CS) "__eq__" = some (some (.ref f41))) (t41 : PySem.W.typeIn K (.ref f41) = some (.type "function")) (l41 : K.lookup f41 = some ⟨oc41, od41, .func (PySem.W.fnOf "__eq__" "Stop.__eq__" (defArgs sEqStop) (defBody sEqStop) (defScope sEqStop) .none kV41 dc41 pm41 an41 cd41 ct41), sl41⟩) (c41 : PySem.W.codeIn K cd41 "Stop.__eq__" = true) (k41 : PySem.W.keepIn K (.ref f41) = true)
    (a42 : PySem.W.findIn K (.ref CD) "__eq__" = some (some (.ref f42))) (t42 : PySem.W.typeIn K (.ref f42) = some (.type "function")) (l42 : K.lookup f42 = some ⟨oc42, od42, .func (PySem.W.fnOf "__eq__" "Drop.__eq__" (defArgs sEqDrop) (defBody sEqDrop) (defScope sEqDrop) .none kV42 dc42 pm42 an42 cd42 ct42), sl42⟩) (c42 : PySem.W.codeIn K cd42 "Drop.__eq__" = true) (k42 : PySem.W.keepIn K (.ref f42) = true)
    (a43 : PySem.W.findIn K (.ref CW) "__eq__" = some (some (.ref f43))) (t43 : PySem.W.typeIn K (.ref f43) = some (.type "function")) (l43 : K.lookup f43 = some ⟨oc43, od43, .func (PySem.W.fnOf "__eq__" "Swap.__eq__" (defArgs sEqSwap) (defBody sEqSwap) (defScope sEqSwap) .none kV43 dc43 pm43 an43 cd43 ct43), sl43⟩) (c43 : PySem.W.codeIn K cd43 "Swap.__eq__" = true) (k43 : PySem.W.keepIn K (.ref f43) = true)
    (a44 : PySem.W.findIn K (.ref CM) "__eq__" = some (some (.ref f44))) (t44 : PySem.W.typeIn K (.ref f44) = some (.type "function")) (l44 : K.lookup f44 = some ⟨oc44, od44, .func (PySem.W.fnOf "__eq__" "Stem.__eq__" (defArgs sEqStem) (defBody sEqStem) (defScope sEqStem) .none kV44 dc44 pm44 an44 cd44 ct44), sl44⟩) (c44 : PySem.W.codeIn K cd44 "Stem.__eq__" = true) (k44 : PySem.W.keepIn K (.ref f44) = true)
    (a45 : PySem.W.findIn K (.ref CC) "__eq__" = some (some (.ref f45))) (t45 : PySem.W.typeIn K (.ref f45) = some (.type "function")) (l45 : K.lookup f45 = some ⟨oc45, od45, .func (PySem.W.fnOf "__eq__" "Chain.__eq__" (defArgs sChEq) (defBody sChEq) (defScope sChEq) .none kV45 dc45 pm45 an45 cd45 ct45), sl45⟩) (c45 : PySem.W.codeIn K cd45 "Chain.__eq__" = true) (k45 : PySem.W.keepIn K (.ref f45) = true)
    (a46 : PySem.W.findIn K (.ref CC) "__len__" = some (some (.ref f46))) (t46 : PySem.W.typeIn K (.ref f46) = some (.type "function")) (l46 : K.lookup f46 = some ⟨oc46, od46, .func (PySem.W.fnOf "__len__" "Chain.__len__" (defArgs sChLen) (defBody sChLen) (defScope sChLen) .none kV46 dc46 pm46 an46 cd46 ct46), sl46⟩) (c46 : PySem.W.codeIn K cd46 "Chain.__len__" = true) (k46 : PySem.W.keepIn K (.ref f46) = true)
    (a47 : PySem.W.findIn K (.ref CC) "__or__" = some (some (.ref f47))) (t47 : PySem.W.typeIn K (.ref f47) = some (.type "function")) (l47 : K.lookup f47 = some ⟨oc47, od47, .func (PySem.W.fnOf "__or__" "Chain.__or__" (defArgs sOr) (defBody sOr) (defScope sOr) .none kV47 dc47 pm47 an47 cd47 ct47), sl47⟩) (c47 : PySem.W.codeIn K cd47 "Chain.__or__" = true) (k47 : PySem.W.keepIn K (.ref f47) = true)
    (cg48 : PySem.W.findCls K (.ref CW) (.type "type") "of" = some (.get (.builtin "classmethod.__get__") (.ref pc48) .none (.ref CW)))
    (a48 : PySem.W.recIn K pc48 "classmethod" = some (.ref f48 :: rc48)) (l48 : K.lookup f48 = some ⟨oc48, od48, .func (PySem.W.fnOf "of" "Swap.of" (defArgs Sw.sOf) (defBody Sw.sOf) (defScope Sw.sOf) .none kV48 dc48 pm48 an48 cd48 ct48), sl48⟩) (c48 : PySem.W.codeIn K cd48 "Swap.of" = true) (k48 : PySem.W.keepIn K (.ref f48) = true)
    (fi48 : PySem.W.fnIn K f48 = true)
    (fr : freeB K bltNames = true)
    (i1 : insB K CS ["words"] = true)
    (i2 : insB K CD ["words"] = true)
    (i3 : insB K CW ["pairs"] = true)
    (i4 : insB K CM ["endings", "keep", "sizes"] = true)
    (i5 : insB K CT ["stem", "ahead", "behind", "is_plain"] = true)
    (i6 : insB K CC ["steps", "turning", "keep", "rules", "meetings", "begins", "sided"] = true)
    (w1 : mkB K CS = true)
    (w2 : mkB K CD = true)
    (w3 : mkB K CW = true)
    (w4 : mkB K CM = true)
    (w5 : mkB K CT = true)
    (w6 : mkB K CC = true)
    (r1 : readB K CS = true)
    (r3 : readB K CW = true)
    (r4 : readB K CM = true)
    (r6 : readB K CC = true)
    (m1 : numB K CS "MOST" 20 = true)
    (m3 : numB K CW "MOST" 10 = true)
    (m4 : numB K CM "MOST" 8 = true)
    (m5 : numB K CM "LEAST" 2 = true)
    (m6 : numB K CC "MOST" 6 = true)
    (kit : kitsB K [(CS, CS, true), (CD, CS, true), (CW, CS, false), (CM, CS, false), (CS, CD, false), (CD, CD, true), (CW, CD, false), (CM, CD, false), (CS, CM, false), (CD, CM, false), (CW, CM, false), (CM, CM, true), (CS, CA, false), (CD, CA, false), (CW, CA, false), (CM, CA, false), (CW, CW, true), (CM, CW, false), (CC, CC, true), (CS, CC, false), (CD, CC, false), (CW, CC, false), (CM, CC, false)] = true)
    (fe : freeB K ["super"] = true)
    (su : PySem.W.ks_superIn K CD CD "__init__" = some (some (.ref f30)))
    (fn2 : PySem.W.fnIn K f30 = true)
    (sf : PySem.W.selfFirst K CC = true)
    (o1 : noNumB K CS Operator.BitOr.info.2 = true)
    (o2 : noNumB K CD Operator.BitOr.info.2 = true)
    (o3 : noNumB K CW Operator.BitOr.info.2 = true)
    (o4 : noNumB K CM Operator.BitOr.info.2 = true)
    (gA : PySem.W.nsIn K mainGlobals "MOST_LETTERS" = some (some (.int 10 tA)))
    (gB : PySem.W.nsIn K mainGlobals "MOST_ENDING_LETTERS" = some (some (.int 4 tB)))
    (gK : PySem.W.nsIn K mainGlobals "MOST_KEPT" = some (some (.int 20 tC)))
    (gH : PySem.W.nsIn K mainGlobals "HOLE" = some (some (.str Sp.hole tH)))
    (no1 : PySem.W.findIn K (.ref CE) "reason" = some none)
    (no2 : PySem.W.findIn K (.ref CE) "index" = some none)
    (ne1 : PySem.W.findIn K (.ref CC) "__ne__" = some (some (.builtin "object.__ne__")))
    (aD : PySem.W.findIn K (.ref CD) "__init__" = some (some (.ref fD)))
    (tD : PySem.W.typeIn K (.ref fD) = some (.type "function"))
    (lD : K.lookup fD = some ⟨ocD, odD, .func (PySem.W.fnX "__init__" "Drop.__init__" (defArgs sInitD) (defBody sInitD) (defScope sInitD) [(Str.ofString "__class__", cc)] .none .none dcD pmD none (.ref cda) ctD), slD⟩)
    (cD : PySem.W.codeIn K (.ref cda) "Drop.__init__" = true)
    (hcode : K.lookup cda = some ⟨ccl, cdd, .fields vsC, ccs⟩)
    (hvs : vsC[2]? = some (.str file tf))
    (hfile : ((l.prog.main.file : Str) == file) = true)
    (htop : (l.prog.main.scope.names.lookup ("super" : Str)).isSome = false)
    (hcell : K.lookup cc = some ⟨cl2, cld, .cell (some (.ref CD)), csl⟩)
    (hDc : PySem.W.clsIn K CD = some cdD)
    (hsub : PySem.W.mroIn K CD (.ref CD) = some true)
    (hop : PySem.W.nsIn K cStatics "thirdparty.any" = some none) :
    ∃ fd : FuncData, (∀ (s : Shared) (v : Value), BindsTo s fd ⟨[v], []⟩ [("_law_script", v)]) ∧ ∀ base : Heap, K.In base → base.Ns mainGlobals mg → FnG l.prog w K mg base (L2.CX l.prog w) 11 fa fd ["_law_script"] (spLaw K) := by
  have e := hfa.symm.trans (PySem.W.mg_of X G a28)
  cases e
  have Fn1 : Fun K "is_letters" "is_letters" sLetters f1 _ := fun_mk (st := sLetters) l1 c1 k1
  have D_is_letters : DefIn K mg "is_letters" sLetters := ⟨⟨f1, _, Fn1, PySem.W.mg_of X G a1⟩⟩
  have Fn2 : Fun K "is_word" "is_word" sIsWord f2 _ := fun_mk (st := sIsWord) l2 c2 k2
  have D_is_word : DefIn K mg "is_word" sIsWord := ⟨⟨f2, _, Fn2, PySem.W.mg_of X G a2⟩⟩
  have Fn3 : Fun K "ascending" "ascending" sAsc f3 _ := fun_mk (st := sAsc) l3 c3 k3
  have D_ascending : DefIn K mg "ascending" sAsc := ⟨⟨f3, _, Fn3, PySem.W.mg_of X G a3⟩⟩
  have Fn4 : Fun K "is_ending" "is_ending" sIsEnding f4 _ := fun_mk (st := sIsEnding) l4 c4 k4
  have D_is_ending : DefIn K mg "is_ending" sIsEnding := ⟨⟨f4, _, Fn4, PySem.W.mg_of X G a4⟩⟩
  have Fn5 : Fun K "is_keep" "is_keep" sIsKeep f5 _ := fun_mk (st := sIsKeep) l5 c5 k5
  have D_is_keep : DefIn K mg "is_keep" sIsKeep := ⟨⟨f5, _, Fn5, PySem.W.mg_of X G a5⟩⟩
  have Fn6 : Fun K "ascending_pairs" "ascending_pairs" Sw.sAscP f6 _ := fun_mk (st := Sw.sAscP) l6 c6 k6
  have D_ascending_pairs : DefIn K mg "ascending_pairs" Sw.sAscP := ⟨⟨f6, _, Fn6, PySem.W.mg_of X G a6⟩⟩
  have Fn7 : Fun K "changes_of" "changes_of" sChanges f7 _ := fun_mk (st := sChanges) l7 c7 k7
  have D_changes_of : DefIn K mg "changes_of" sChanges := ⟨⟨f7, _, Fn7, PySem.W.mg_of X G a7⟩⟩
  have Fn8 : Fun K "composed" "composed" sComposed f8 _ := fun_mk (st := sComposed) l8 c8 k8
  have D_composed : DefIn K mg "composed" sComposed := ⟨⟨f8, _, Fn8, PySem.W.mg_of X G a8⟩⟩
  have Fn9 : Fun K "check_steps" "check_steps" sCheck f9 _ := fun_mk (st := sCheck) l9 c9 k9
  have D_check_steps : DefIn K mg "check_steps" sCheck := ⟨⟨f9, _, Fn9, PySem.W.mg_of X G a9⟩⟩
  have Fn10 : Fun K "check_drop" "check_drop" sChkDrop f10 _ := fun_mk (st := sChkDrop) l10 c10 k10
  have D_check_drop : DefIn K mg "check_drop" sChkDrop := ⟨⟨f10, _, Fn10, PySem.W.mg_of X G a10⟩⟩
  have Fn11 : Fun K "check_sides" "check_sides" sChkSides f11 _ := fun_mk (st := sChkSides) l11 c11 k11
  have D_check_sides : DefIn K mg "check_sides" sChkSides := ⟨⟨f11, _, Fn11, PySem.W.mg_of X G a11⟩⟩
  have Fn12 : Fun K "each_once" "each_once" sEach f12 _ := fun_mk (st := sEach) l12 c12 k12
  have D_each_once : DefIn K mg "each_once" sEach := ⟨⟨f12, _, Fn12, PySem.W.mg_of X G a12⟩⟩
  have Fn13 : Fun K "meetings_of" "meetings_of" sMeet f13 _ := fun_mk (st := sMeet) l13 c13 k13
  have D_meetings_of : DefIn K mg "meetings_of" sMeet := ⟨⟨f13, _, Fn13, PySem.W.mg_of X G a13⟩⟩
  have Fn14 : Fun K "begins_of" "begins_of" sBegins f14 _ := fun_mk (st := sBegins) l14 c14 k14
  have D_begins_of : DefIn K mg "begins_of" sBegins := ⟨⟨f14, _, Fn14, PySem.W.mg_of X G a14⟩⟩
  have Fn15 : Fun K "_law_pen" "_law_pen" sPen f15 _ := fun_mk (st := sPen) l15 c15 k15
  have D__law_pen : DefIn K mg "_law_pen" sPen := ⟨⟨f15, _, Fn15, PySem.W.mg_of X G a15⟩⟩
  have Fn16 : Fun K "_law_draw" "_law_draw" sDraw f16 _ := fun_mk (st := sDraw) l16 c16 k16
  have D__law_draw : DefIn K mg "_law_draw" sDraw := ⟨⟨f16, _, Fn16, PySem.W.mg_of X G a16⟩⟩
  have Fn17 : Fun K "_law_pick" "_law_pick" sPick f17 _ := fun_mk (st := sPick) l17 c17 k17
  have D__law_pick : DefIn K mg "_law_pick" sPick := ⟨⟨f17, _, Fn17, PySem.W.mg_of X G a17⟩⟩
  have Fn18 : Fun K "_law_pool" "_law_pool" sPool f18 _ := fun_mk (st := sPool) l18 c18 k18
  have D__law_pool : DefIn K mg "_law_pool" sPool := ⟨⟨f18, _, Fn18, PySem.W.mg_of X G a18⟩⟩
  have Fn19 : Fun K "_law_some" "_law_some" sSome f19 _ := fun_mk (st := sSome) l19 c19 k19
  have D__law_some : DefIn K mg "_law_some" sSome := ⟨⟨f19, _, Fn19, PySem.W.mg_of X G a19⟩⟩
  have Fn20 : Fun K "_law_step" "_law_step" sStep f20 _ := fun_mk (st := sStep) l20 c20 k20
  have D__law_step : DefIn K mg "_law_step" sStep := ⟨⟨f20, _, Fn20, PySem.W.mg_of X G a20⟩⟩
  have Fn21 : Fun K "_law_steps" "_law_steps" sSteps f21 _ := fun_mk (st := sSteps) l21 c21 k21
  have D__law_steps : DefIn K mg "_law_steps" sSteps := ⟨⟨f21, _, Fn21, PySem.W.mg_of X G a21⟩⟩
  have Fn22 : Fun K "_law_stepped" "_law_stepped" sStepped f22 _ := fun_mk (st := sStepped) l22 c22 k22
  have D__law_stepped : DefIn K mg "_law_stepped" sStepped := ⟨⟨f22, _, Fn22, PySem.W.mg_of X G a22⟩⟩
  have Fn23 : Fun K "_law_result" "_law_result" sResult f23 _ := fun_mk (st := sResult) l23 c23 k23
  have D__law_result : DefIn K mg "_law_result" sResult := ⟨⟨f23, _, Fn23, PySem.W.mg_of X G a23⟩⟩
  have Fn24 : Fun K "_law_made_step" "_law_made_step" sMadeStep f24 _ := fun_mk (st := sMadeStep) l24 c24 k24
  have D__law_made_step : DefIn K mg "_law_made_step" sMadeStep := ⟨⟨f24, _, Fn24, PySem.W.mg_of X G a24⟩⟩
  have Fn25 : Fun K "_law_chain" "_law_chain" sLawChain f25 _ := fun_mk (st := sLawChain) l25 c25 k25
  have D__law_chain : DefIn K mg "_law_chain" sLawChain := ⟨⟨f25, _, Fn25, PySem.W.mg_of X G a25⟩⟩
  have Fn26 : Fun K "_law_words" "_law_words" sLawWords f26 _ := fun_mk (st := sLawWords) l26 c26 k26
  have D__law_words : DefIn K mg "_law_words" sLawWords := ⟨⟨f26, _, Fn26, PySem.W.mg_of X G a26⟩⟩
  have Fn27 : Fun K "_law_by_steps" "_law_by_steps" sByStep f27 _ := fun_mk (st := sByStep) l27 c27 k27
  have D__law_by_steps : DefIn K mg "_law_by_steps" sByStep := ⟨⟨f27, _, Fn27, PySem.W.mg_of X G a27⟩⟩
  have Fn28 : Fun K "law" "law" sLaw fa _ := fun_mk (st := sLaw) l28 c28 k28
  have mCE : mg "InvalidStep" = some (.ref CE) := PySem.W.mg_of X G gCE
  have Fn29 : Fun K "__init__" "InvalidStep.__init__" sErrInit f29 _ := fun_mk (st := sErrInit) l29 c29 k29
  have biCE : Binds K _ ["self", "reason", "index"] [] := Fn29.binds (ps := ["self", "reason", "index"]) fun _ _ _ _ _ _ us hl => match us, hl with | [_, _, _], _ => rfl
  have ECE : ErrC K mg "InvalidStep" CE := errC_of mCE x1CE x2CE x3CE x4CE
  have mCS : mg "Stop" = some (.ref CS) := PySem.W.mg_of X G gCS
  have mCD : mg "Drop" = some (.ref CD) := PySem.W.mg_of X G gCD
  have mCW : mg "Swap" = some (.ref CW) := PySem.W.mg_of X G gCW
  have mCM : mg "Stem" = some (.ref CM) := PySem.W.mg_of X G gCM
  have mCA : mg "Same" = some (.ref CA) := PySem.W.mg_of X G gCA
  have mCT : mg "Turning" = some (.ref CT) := PySem.W.mg_of X G gCT
  have mCC : mg "Chain" = some (.ref CC) := PySem.W.mg_of X G gCC
  have Fn30 : Fun K "__init__" "Stop.__init__" Sp.sInit f30 _ := fun_mk (st := Sp.sInit) l30 c30 k30
  have Fn31 : Fun K "__init__" "Stem.__init__" Sm.sInit f31 _ := fun_mk (st := Sm.sInit) l31 c31 k31
  have Fn32 : Fun K "__init__" "Swap.__init__" Sw.sInit f32 _ := fun_mk (st := Sw.sInit) l32 c32 k32
  have Fn33 : Fun K "__init__" "Turning.__init__" sTurnInit f33 _ := fun_mk (st := sTurnInit) l33 c33 k33
  have bm33 : Binds K _ ["self", "steps"] [] := Fn33.binds (ps := ["self", "steps"]) fun _ _ _ _ _ _ us hl => match us, hl with | [_, _], _ => rfl
  have Fn34 : Fun K "__init__" "Chain.__init__" sChainInit f34 _ := fun_mk (st := sChainInit) l34 c34 k34
  have Fn35 : Fun K "result" "Stop.result" Sp.sResS f35 _ := fun_mk (st := Sp.sResS) l35 c35 k35
  have bm35 : Binds K _ ["self", "value"] [] := Fn35.binds (ps := ["self", "value"]) fun _ _ _ _ _ _ us hl => match us, hl with | [_, _], _ => rfl
  have Fn36 : Fun K "result" "Drop.result" Sp.sResD f36 _ := fun_mk (st := Sp.sResD) l36 c36 k36
  have bm36 : Binds K _ ["self", "value"] [] := Fn36.binds (ps := ["self", "value"]) fun _ _ _ _ _ _ us hl => match us, hl with | [_, _], _ => rfl
  have Fn37 : Fun K "result" "Swap.result" Sw.sResult f37 _ := fun_mk (st := Sw.sResult) l37 c37 k37
  have bm37 : Binds K _ ["self", "value"] [] := Fn37.binds (ps := ["self", "value"]) fun _ _ _ _ _ _ us hl => match us, hl with | [_, _], _ => rfl
  have Fn38 : Fun K "result" "Stem.result" Sm.sResult f38 _ := fun_mk (st := Sm.sResult) l38 c38 k38
  have bm38 : Binds K _ ["self", "value"] [] := Fn38.binds (ps := ["self", "value"]) fun _ _ _ _ _ _ us hl => match us, hl with | [_, _], _ => rfl
  have Fn39 : Fun K "result" "Turning.result" sTurnRes f39 _ := fun_mk (st := sTurnRes) l39 c39 k39
  have bm39 : Binds K _ ["self", "word"] [] := Fn39.binds (ps := ["self", "word"]) fun _ _ _ _ _ _ us hl => match us, hl with | [_, _], _ => rfl
  have Fn40 : Fun K "result" "Chain.result" sChRes f40 _ := fun_mk (st := sChRes) l40 c40 k40
  have bm40 : Binds K _ ["self", "word"] [] := Fn40.binds (ps := ["self", "word"]) fun _ _ _ _ _ _ us hl => match us, hl with | [_, _], _ => rfl
  have Fn41 : Fun K "__eq__" "Stop.__eq__" sEqStop f41 _ := fun_mk (st := sEqStop) l41 c41 k41
  have bm41 : Binds K _ ["self", "other"] [] := Fn41.binds (ps := ["self", "other"]) fun _ _ _ _ _ _ us hl => match us, hl with | [_, _], _ => rfl
  have Fn42 : Fun K "__eq__" "Drop.__eq__" sEqDrop f42 _ := fun_mk (st := sEqDrop) l42 c42 k42
  have bm42 : Binds K _ ["self", "other"] [] := Fn42.binds (ps := ["self", "other"]) fun _ _ _ _ _ _ us hl => match us, hl with | [_, _], _ => rfl
  have Fn43 : Fun K "__eq__" "Swap.__eq__" sEqSwap f43 _ := fun_mk (st := sEqSwap) l43 c43 k43
  have bm43 : Binds K _ ["self", "other"] [] := Fn43.binds (ps := ["self", "other"]) fun _ _ _ _ _ _ us hl => match us, hl with | [_, _], _ => rfl
  have Fn44 : Fun K "__eq__" "Stem.__eq__" sEqStem f44 _ := fun_mk (st := sEqStem) l44 c44 k44
  have bm44 : Binds K _ ["self", "other"] [] := Fn44.binds (ps := ["self", "other"]) fun _ _ _ _ _ _ us hl => match us, hl with | [_, _], _ => rfl
  have Fn45 : Fun K "__eq__" "Chain.__eq__" sChEq f45 _ := fun_mk (st := sChEq) l45 c45 k45
  have bm45 : Binds K _ ["self", "other"] [] := Fn45.binds (ps := ["self", "other"]) fun _ _ _ _ _ _ us hl => match us, hl with | [_, _], _ => rfl
  have Fn46 : Fun K "__len__" "Chain.__len__" sChLen f46 _ := fun_mk (st := sChLen) l46 c46 k46
  have bm46 : Binds K _ ["self"] [] := Fn46.binds (ps := ["self"]) fun _ _ _ _ _ _ us hl => match us, hl with | [_], _ => rfl
  have Fn47 : Fun K "__or__" "Chain.__or__" sOr f47 _ := fun_mk (st := sOr) l47 c47 k47
  have bm47 : Binds K _ ["self", "other"] [] := Fn47.binds (ps := ["self", "other"]) fun _ _ _ _ _ _ us hl => match us, hl with | [_, _], _ => rfl
  have Fn48 : Fun K "of" "Swap.of" Sw.sOf f48 _ := fun_mk (st := Sw.sOf) l48 c48 k48
  have bm48 : Binds K _ ["cls", "pairs"] [] := Fn48.binds (ps := ["cls", "pairs"]) fun _ _ _ _ _ _ us hl => match us, hl with | [_, _], _ => rfl
  have B : Blt mg := blt_of X G fr
  refine ⟨PySem.W.fnOf "law" "law" (defArgs sLaw) (defBody sLaw) (defScope sLaw) .none kV28 dc28 pm28 an28 cd28 ct28, fun s v => .of_eq rfl, fun base _ _ => ?_⟩

  have hA : ∃ t, mg "MOST_LETTERS" = some (.int 10 t) := ⟨_, PySem.W.mg_of X G gA⟩
  have hB : ∃ t, mg "MOST_ENDING_LETTERS" = some (.int 4 t) := ⟨_, PySem.W.mg_of X G gB⟩
  have hC : ∃ t, mg "MOST_KEPT" = some (.int 20 t) := ⟨_, PySem.W.mg_of X G gK⟩
  have hH : ∃ t, mg "HOLE" = some (.str Sp.hole t) := ⟨_, PySem.W.mg_of X G gH⟩
  have nSu : mg "super" = none := freeB_ok X G fe (by decide +kernel)
  have no : ∀ x ∈ (["reason", "index"] : List Str), PySem.W.findIn K (.ref CE) x = some none := fun x hx => by
    rcases List.mem_cons.mp hx with rfl | hx
    · exact no1
    · rw [List.mem_singleton.mp hx]
      exact no2
  have TE : Qi.ErrN l.prog w K mg base "InvalidStep" ["reason", "index"] CE := ⟨ECE, no, ⟨_, _, a29, t29, biCE, ok_errInit Fn29 ECE.o no⟩⟩
  have raw : ∀ {k : Nat} {f : Addr} {fd : FuncData} {ps : List Str} {sp : L2.Sp}, FnOk l.prog w K mg base (L2.CX l.prog w) k f fd ps sp → Binds K fd ps [] → FnR l.prog w K mg base (L2.CX l.prog w) k f sp := fun F hb => (F.raw hb .nil).imp fun vs H Q E h => by
    rw [List.append_nil]
    exact h
  obtain ⟨I1, n1⟩ := insB_ok i1
  obtain ⟨I2, n2⟩ := insB_ok i2
  obtain ⟨I3, n3⟩ := insB_ok i3
  obtain ⟨I4, n4⟩ := insB_ok i4
  obtain ⟨I5, n5⟩ := insB_ok i5
  obtain ⟨I6, n6⟩ := insB_ok i6
  have TS : Sp.StopC K mg CS := ⟨mCS, numB_ok m1 r1⟩
  have WS1 : Sp.InsW K CS := ⟨I1.cl, n1 _ (List.mem_of_getElem? (i := 0) rfl)⟩
  have WD1 : Sp.InsW K CD := ⟨I2.cl, n2 _ (List.mem_of_getElem? (i := 0) rfl)⟩
  have TW : Sw.SwapC K mg CW := ⟨mCW, I3.cl, n3 _ (List.mem_of_getElem? (i := 0) rfl), numB_ok m3 r3⟩
  have TM : Sm.StemC K mg CM := ⟨mCM, I4.cl, n4 _ (List.mem_of_getElem? (i := 0) rfl), n4 _ (List.mem_of_getElem? (i := 1) rfl), n4 _ (List.mem_of_getElem? (i := 2) rfl), numB_ok m4 r4, numB_ok m5 r4⟩
  have TT : TurnC K CT := ⟨I5.cl, n5 _ (List.mem_of_getElem? (i := 0) rfl), n5 _ (List.mem_of_getElem? (i := 1) rfl), n5 _ (List.mem_of_getElem? (i := 2) rfl), n5 _ (List.mem_of_getElem? (i := 3) rfl)⟩
  have TI : ChainI K CC := ⟨I6.cl, n6 _ (List.mem_of_getElem? (i := 0) rfl), n6 _ (List.mem_of_getElem? (i := 1) rfl), n6 _ (List.mem_of_getElem? (i := 2) rfl), n6 _ (List.mem_of_getElem? (i := 3) rfl), n6 _ (List.mem_of_getElem? (i := 4) rfl), n6 _ (List.mem_of_getElem? (i := 5) rfl), n6 _ (List.mem_of_getElem? (i := 6) rfl)⟩
  have TC : ChainC K mg CC := ⟨mCC, numB_ok m6 r6⟩
  let c : C4 := ⟨CS, CD, CW, CM⟩
  have kk : Kits K c := ⟨I1, I2, I3, I4, kitsB_ok kit 0 rfl, kitsB_ok kit 1 rfl, kitsB_ok kit 2 rfl, kitsB_ok kit 3 rfl, kitsB_ok kit 4 rfl, kitsB_ok kit 5 rfl, kitsB_ok kit 6 rfl, kitsB_ok kit 7 rfl, kitsB_ok kit 8 rfl, kitsB_ok kit 9 rfl, kitsB_ok kit 10 rfl, kitsB_ok kit 11 rfl⟩
  have kA : KitA K mg c CA := ⟨mCA, kitsB_ok kit 12 rfl, kitsB_ok kit 13 rfl, kitsB_ok kit 14 rfl, kitsB_ok kit 15 rfl, kitsB_ok kit 16 rfl, kitsB_ok kit 17 rfl⟩
  have kc : KitC K c CC := ⟨I6, kitsB_ok kit 18 rfl, kitsB_ok kit 19 rfl, kitsB_ok kit 20 rfl, kitsB_ok kit 21 rfl, kitsB_ok kit 22 rfl⟩
  have letters := ok_letters (P := l.prog) (w := w) (base := base) D_is_letters B
  have isWord := ok_isWord D_is_word hA letters
  have isEnding := ok_isEnding D_is_ending hB letters
  have isKeep := ok_isKeep D_is_keep B hC isWord
  have asc := ok_asc (P := l.prog) (w := w) (base := base) D_ascending B
  have ascP := Sw.ok_ascP D_ascending_pairs B TW TE isWord
  have pen := ok_pen (P := l.prog) (w := w) (base := base) D__law_pen B
  have draw := ok_draw (P := l.prog) (w := w) (base := base) D__law_draw B
  have pick := ok_pick D__law_pick B draw
  have pool := ok_pool (P := l.prog) (w := w) (base := base) D__law_pool
  have initS := Sp.ok_init (CI := CS) Fn30 B TS WS1 TE isWord asc
  have initSD := Sp.ok_init (CI := CD) Fn30 B TS WD1 TE isWord asc
  have hm : PySem.W.alongIn K "__init__" ((cdD.mro.dropWhile (· != .ref CD)).drop 1) = some (some (.ref f30)) := by
    have z := su
    unfold PySem.W.ks_superIn at z
    rw [hDc] at z
    exact z
  have initD : FnR l.prog w K mg base (L2.CX l.prog w) 5 fD (Sp.spInitDrop K CD CE) :=
    fn_superStar (F := ⟨"__init__", "Drop.__init__", defArgs sInitD, defBody sInitD, defScope sInitD, [(Str.ofString "__class__", cc)], cda⟩) (N := ["self", "words", "__class__"]) lD cD (show NScope ["self", "words", "__class__"] ["self", "words"] ["__class__"] (defScope sInitD) from nscope_by (by decide +kernel)) rfl rfl (fun u rest => match rest with | [] => rfl | _ :: _ => rfl) rfl rfl hcode hvs hfile htop hcell hDc hDc hsub nSu (show (defScope sInitD).names.lookup ("super" : Str) = some .globalImplicit from by decide +kernel) hop hm t30 fn2 initSD
  have initM := Sm.ok_init Fn31 B TM TE isEnding isKeep asc
  have initA := Sw.ok_initA Fn32 TW ascP
  have MKW : Mk K CW f32 := mkB_ok w3 a32 t32
  have FO := Sw.ok_of Fn48 TW MKW ascP initA
  have MM : Makers l.prog w K mg base c CE := ⟨⟨f30, mkB_ok w1 a30 t30, initS⟩, ⟨fD, mkB_ok w2 aD tD, initD⟩, ⟨f31, mkB_ok w4 a31 t31, initM⟩, ⟨.type "type", _, _, ⟨(readB_ok r3).1, (readB_ok r3).2⟩, ⟨cg48, ⟨_, a48⟩, fi48⟩, raw FO bm48⟩, mCS, mCD, mCW, mCM⟩
  have FS := Sp.ok_resS (P := l.prog) (w := w) (base := base) Fn35 WS1 hH
  have FDr := Sp.ok_resD (P := l.prog) (w := w) (mg := mg) (base := base) Fn36 WD1
  have FW := Sw.ok_result (P := l.prog) (w := w) (base := base) Fn37 TW
  have FM := Sm.ok_result (P := l.prog) (w := w) (base := base) Fn38 B TM
  have RR : Res l.prog w K mg base c := ⟨⟨I1.cl, _, _, _, ⟨a35, beq_iff_eq.mpr t35, k35⟩, FS, bm35⟩, ⟨I2.cl, _, _, _, ⟨a36, beq_iff_eq.mpr t36, k36⟩, FDr, bm36⟩, ⟨I3.cl, _, _, _, ⟨a37, beq_iff_eq.mpr t37, k37⟩, FW, bm37⟩, ⟨I4.cl, _, _, _, ⟨a38, beq_iff_eq.mpr t38, k38⟩, FM, bm38⟩⟩
  have changes := ok_changes D_changes_of B TS WS1 WD1 TW RR kk
  have comp := ok_composed D_composed B changes
  have FTI := ok_turnInit Fn33 B TM TT kk comp
  have FTR := ok_turnRes Fn39 B hH TT RR
  have check := ok_check (P := l.prog) (w := w) (base := base) D_check_steps B TC TS TW TM kk kA
  have chkD := ok_chkDrop (P := l.prog) (w := w) (base := base) D_check_drop B mCD kk
  have chkS := ok_chkSides (P := l.prog) (w := w) (base := base) D_check_sides B
  have each := ok_each (P := l.prog) (w := w) (base := base) D_each_once B
  have meet := ok_meet D_meetings_of B each
  have begs := ok_begins (P := l.prog) (w := w) (base := base) D_begins_of B
  have FC := ok_chainI Fn34 B TC TI kk kA mCT (mkB_ok w5 a33 t33) check chkD chkS each meet begs (raw FTI bm33)
  have MC : Mk K CC f34 := mkB_ok w6 a34 t34
  have FCR := ok_chRes Fn40 TI isWord ⟨I5.cl, _, _, _, ⟨a39, beq_iff_eq.mpr t39, k39⟩, FTR, bm39⟩
  have ES : EqS l.prog w K mg base c := ⟨⟨_, _, _, a41, beq_iff_eq.mpr t41, ok_eqStop Fn41 B TS mCD WS1 kk, bm41⟩, ⟨_, _, _, a42, beq_iff_eq.mpr t42, ok_eqDrop Fn42 B mCD WD1 kk, bm42⟩, ⟨_, _, _, a43, beq_iff_eq.mpr t43, ok_eqSwap Fn43 B TW kk (kitsB_ok kit 16 rfl), bm43⟩, ⟨_, _, _, a44, beq_iff_eq.mpr t44, ok_eqStem Fn44 B TM kk, bm44⟩⟩
  have FE := ok_chEq (CT := CT) Fn45 B TC TI kc ES
  have FL := ok_chLen (P := l.prog) (w := w) (base := base) (c := c) (CT := CT) Fn46 B TI
  have FOr := ok_or Fn47 B TC TI kk kc MC FC
  have O : OrM l.prog w K mg base c CC CT := ⟨sf, ⟨_, a47, beq_iff_eq.mpr t47, raw FOr bm47⟩, o1, o2, o3, o4, kc, kk, ⟨f34, MC, FC⟩, mCC⟩
  have CH : ChM l.prog w K mg base c CC CT := ⟨I6.cl, ⟨_, _, ⟨a40, beq_iff_eq.mpr t40, k40⟩, bm40, (fun u ws hl => match ws, hl with | [_], _ => rfl), FCR⟩, ⟨_, a46, beq_iff_eq.mpr t46, raw FL bm46⟩, ⟨_, a45, beq_iff_eq.mpr t45, raw FE bm45⟩, ne1, I6.hm⟩
  have some_ := ok_some D__law_some B draw pick pool
  have step := ok_step D__law_step B draw pick pool some_
  have steps := ok_steps D__law_steps B draw step
  have stepped := ok_stepped (P := l.prog) (w := w) (base := base) D__law_stepped B
  have result := ok_result D__law_result stepped
  have made := ok_madeStep D__law_made_step B MM
  have chain := ok_lawChain D__law_chain O made
  have words := ok_words D__law_words B draw pick pool
  have byS := ok_by D__law_by_steps RR made
  exact ok_law Fn28 B MM O CH pen draw steps chain words result byS
theorem walk {l : PySem.W.OpenLaw} {q : Program} {loose : List Str} {XP : (Str → Option Value) → Heap → Prop} {YP : World → Heap → Prop} {d : DefRec} {K : Params → PySem.W.Frag} (hn : l.most = some 63) (hdf : d.params.defaults = [])
    (hY : ∀ (w : World) (h : Heap), YP w h → (K w.params).In h)
    (F : ∀ (w : World) (mg : Str → Option Value) (fa : Addr) (h : Heap), (K w.params).In h → h.Ns mainGlobals mg → mg d.name = some (.ref fa) →
      ∃ fd : FuncData, (∀ (s : Shared) (u : Value), BindsTo s fd ⟨[u], []⟩ [("_law_script", u)]) ∧ ∀ base : Heap, (K w.params).In base → base.Ns mainGlobals mg → FnG l.prog w (K w.params) mg base (L2.CX l.prog w) 11 fa fd ["_law_script"] (spLaw (K w.params))) :
    PySem.W.WalkO q loose XP YP l.row.toRowW d [] (fun f vs => PySem.call f vs) :=
  Qh.walk_ofG (n := 63) (k := 11) (x := "_law_script") (CX := fun w => L2.CX l.prog w) (sp := fun w => spLaw (K w.params)) hn (by decide) hdf ⟨rfl, by decide, by decide⟩ hY F (fun _ _ a ns _ _ hS => ⟨a, ns, rfl, hS, fun _ => rfl⟩) fun _ _ _ _ _ h => by
    obtain ⟨_, _, _, _, _, _, _, _, _, _, _, _, z⟩ := h
    exact z.elim
end K07
open PySem PySem.W PyProof.Rows
local macro_rules | `(tactic| o_head (kmHook $K $as $_ $ts)) => `(tactic| (
  refine HeadRun.head_any (q := Qhd.viewOf PySem.Challenge.rw_quotehome_k07_whole_steps_in_a_row.prog 93) (H := kmHook $K $as (fun _ => by kernel_rfl) $ts) (ob := Qhd.obT $as $ts) (M := 40000) (loose := ("_wall" :: "QuoteError" :: "InvalidWord" :: "InvalidText" :: "InvalidStep" :: "InvalidChain" :: "InvalidLine" :: "NoBlock" :: "MOST_LETTERS" :: "HOLE" :: "is_letters" :: "is_word" :: "words_of" :: "text_of" :: "ascending" :: "is_number" :: "MOST_KEPT" :: "MOST_ENDING_LETTERS" :: "is_ending" :: "quoted" :: "quoted_pairs" :: "kept_text" :: "is_keep" :: "ascending_pairs" :: "Step" :: "Stop" :: "Drop" :: "Swap" :: "Stem" :: "LEAST_SIDES" :: "MOST_SIDES" :: "MOST_SIDE_WORDS" :: "is_side" :: "rule_of" :: "rule_text" :: "rule_line" :: "each_once" :: "Same" :: "NOTHING" :: "sides_beside" :: "indexes_of" :: "met_part" :: "meetings_of" :: "begins_of" :: "part_at" :: "Block" :: "block_row" :: "blocks_of" :: "tokens_of" :: "word_places" :: "Graph" :: "WORD_KINDS" :: "RULE_KINDS" :: "stands_behind" :: "wrong_in_words" :: "wrong_in_swap" :: "wrong_in_stem" :: "wrong_in_rule" :: "wrong_part" :: "checked_lines" :: "word_step" :: "steps_of" :: "changes_of" :: "composed" :: "Turning" :: "check_steps" :: "check_drop" :: "check_sides" :: "Chain" :: "_law_pen" :: "_law_draw" :: "_law_pick" :: "_law_pool" :: "_law_some" :: "_law_step" :: "_law_steps" :: "_law_stepped" :: "_law_result" :: "_law_made_step" :: "_law_chain" :: "_law_words" :: "_law_by_steps" :: ([] : List PySem.Str))) (d := HeadRun.topDef PySem.Challenge.rw_quotehome_k07_whole_steps_in_a_row.prog 93) (kwd := []) (fun s => Qhd.obT_eq s) (by rfl) (fun s => by kernel_rfl) ?run (by rfl) (by rfl) (by rfl) (by rfl) (by first | assumption | decide +kernel) (by decide +kernel) ⟨rfl, rfl, rfl, rfl, rfl, by decide +kernel⟩ ?hw ?hc
  case run =>
    intro w os
    kernel_rfl))
set_option maxRecDepth 100000 in
set_option maxHeartbeats 0 in
theorem PySem.Challenge.cw_quotehome_k07_whole_steps_in_a_row_holds : PySem.Challenge.rw_quotehome_k07_whole_steps_in_a_row.Holds := by
  w_on; o_law; k_head; (case hw => w_witness2)
  k_fill
  refine K07.walk (l := PySem.Challenge.rw_quotehome_k07_whole_steps_in_a_row) rfl rfl (fun w h Y => PySem.W.km_in_of Y) ?F
  case F =>
    intro w mg fa h KX G hmg
    refine' K07.all_mk KX G hmg ?a1 ?l1 ?c1 ?k1 ?a2 ?l2 ?c2 ?k2 ?a3 ?l3 ?c3 ?k3 ?a4 ?l4 ?c4 ?k4 ?a5 ?l5 ?c5 ?k5 ?a6 ?l6 ?c6 ?k6 ?a7 ?l7 ?c7 ?k7 ?a8 ?l8 ?c8 ?k8 ?a9 ?l9 ?c9 ?k9 ?a10 ?l10 ?c10 ?k10 ?a11 ?l11 ?c11 ?k11 ?a12 ?l12 ?c12 ?k12 ?a13 ?l13 ?c13 ?k13 ?a14 ?l14 ?c14 ?k14 ?a15 ?l15 ?c15 ?k15 ?a16 ?l16 ?c16 ?k16 ?a17 ?l17 ?c17 ?k17 ?a18 ?l18 ?c18 ?k18 ?a19 ?l19 ?c19 ?k19 ?a20 ?l20 ?c20 ?k20 ?a21 ?l21 ?c21 ?k21 ?a22 ?l22 ?c22 ?k22 ?a23 ?l23 ?c23 ?k23 ?a24 ?l24 ?c24 ?k24 ?a25 ?l25 ?c25 ?k25 ?a26 ?l26 ?c26 ?k26 ?a27 ?l27 ?c27 ?k27 ?a28 ?l28 ?c28 ?k28 ?gCE ?a29 ?t29 ?l29 ?c29 ?k29 ?x1CE ?x2CE ?x3CE ?x4CE ?gCS ?gCD ?gCW ?gCM ?gCA ?gCT ?gCC ?a30 ?t30 ?l30 ?c30 ?k30 ?a31 ?t31 ?l31 ?c31 ?k31 ?a32 ?t32 ?l32 ?c32 ?k32 ?a33 ?t33 ?l33 ?c33 ?k33 ?a34 ?t34 ?l34 ?c34 ?k34 ?a35 ?t35 ?l35 ?c35 ?k35 ?a36 ?t36 ?l36 ?c36 ?k36 ?a37 ?t37 ?l37 ?c37 ?k37 ?a38 ?t38 ?l38 ?c38 ?k38 ?a39 ?t39 ?l39 ?c39 ?k39 ?a40 ?t40 ?l40 ?c40 ?k40 ?a41 ?t41 ?l41 ?c41 ?k41 ?a42 ?t42 ?l42 ?c42 ?k42 ?a43 ?t43 ?l43 ?c43 ?k43 ?a44 ?t44 ?l44 ?c44 ?k44 ?a45 ?t45 ?l45 ?c45 ?k45 ?a46 ?t46 ?l46 ?c46 ?k46 ?a47 ?t47 ?l47 ?c47 ?k47 ?cg48 ?a48 ?l48 ?c48 ?k48 ?fi48 ?fr ?i1 ?i2 ?i3 ?i4 ?i5 ?i6 ?w1 ?w2 ?w3 ?w4 ?w5 ?w6 ?r1 ?r3 ?r4 ?r6 ?m1 ?m3 ?m4 ?m5 ?m6 ?kit ?fe ?su ?fn2 ?sf ?o1 ?o2 ?o3 ?o4 ?gA ?gB ?gK ?gH ?no1 ?no2 ?ne1 ?aD ?tD ?lD ?cD ?hcode ?hvs ?hfile ?htop ?hcell ?hDc ?hsub ?hop
    (case a1 => k_is)
    (case l1 => k_is)
    (case c1 => k_is)
    (case k1 => k_is)
    (case a2 => k_is)
    (case l2 => k_is)
    (case c2 => k_is)
    (case k2 => k_is)
    (case a3 => k_is)
    (case l3 => k_is)
    (case c3 => k_is)
    (case k3 => k_is)
    (case a4 => k_is)
    (case l4 => k_is)
    (case c4 => k_is)
    (case k4 => k_is)
    (case a5 => k_is)
    (case l5 => k_is)
    (case c5 => k_is)
    (case k5 => k_is)
    (case a6 => k_is)
    (case l6 => k_is)
    (case c6 => k_is)
    (case k6 => k_is)
    (case a7 => k_is)
    (case l7 => k_is)
    (case c7 => k_is)
    (case k7 => k_is)
    (case a8 => k_is)
    (case l8 => k_is)
    (case c8 => k_is)
    (case k8 => k_is)
    (case a9 => k_is)
    (case l9 => k_is)
    (case c9 => k_is)
    (case k9 => k_is)
    (case a10 => k_is)
    (case l10 => k_is)
    (case c10 => k_is)
    (case k10 => k_is)
    (case a11 => k_is)
    (case l11 => k_is)
    (case c11 => k_is)
    (case k11 => k_is)
    (case a12 => k_is)
    (case l12 => k_is)
    (case c12 => k_is)
    (case k12 => k_is)
    (case a13 => k_is)
    (case l13 => k_is)
    (case c13 => k_is)
    (case k13 => k_is)
    (case a14 => k_is)
    (case l14 => k_is)
    (case c14 => k_is)
    (case k14 => k_is)
    (case a15 => k_is)
    (case l15 => k_is)
    (case c15 => k_is)
    (case k15 => k_is)
    (case a16 => k_is)
    (case l16 => k_is)
    (case c16 => k_is)
    (case k16 => k_is)
    (case a17 => k_is)
    (case l17 => k_is)
    (case c17 => k_is)
    (case k17 => k_is)
    (case a18 => k_is)
    (case l18 => k_is)
    (case c18 => k_is)
    (case k18 => k_is)
    (case a19 => k_is)
    (case l19 => k_is)
    (case c19 => k_is)
    (case k19 => k_is)
    (case a20 => k_is)
    (case l20 => k_is)
    (case c20 => k_is)
    (case k20 => k_is)
    (case a21 => k_is)
    (case l21 => k_is)
    (case c21 => k_is)
    (case k21 => k_is)
    (case a22 => k_is)
    (case l22 => k_is)
    (case c22 => k_is)
    (case k22 => k_is)
    (case a23 => k_is)
    (case l23 => k_is)
    (case c23 => k_is)
    (case k23 => k_is)
    (case a24 => k_is)
    (case l24 => k_is)
    (case c24 => k_is)
    (case k24 => k_is)
    (case a25 => k_is)
    (case l25 => k_is)
    (case c25 => k_is)
    (case k25 => k_is)
    (case a26 => k_is)
    (case l26 => k_is)
    (case c26 => k_is)
    (case k26 => k_is)
    (case a27 => k_is)
    (case l27 => k_is)
    (case c27 => k_is)
    (case k27 => k_is)
    (case a28 => k_is)
    (case l28 => k_is)
    (case c28 => k_is)
    (case k28 => k_is)
    (case gCE => k_is)
    (case a29 => k_is)
    (case t29 => k_is)
    (case l29 => k_is)
    (case c29 => k_is)
    (case k29 => k_is)
    (case x1CE => kernel_rfl)
    (case x2CE => kernel_rfl)
    (case x3CE => kernel_rfl)
    (case x4CE => kernel_rfl)
    (case gCS => k_is)
    (case gCD => k_is)
    (case gCW => k_is)
    (case gCM => k_is)
    (case gCA => k_is)
    (case gCT => k_is)
    (case gCC => k_is)
    (case a30 => k_is)
    (case t30 => k_is)
    (case l30 => k_is)
    (case c30 => k_is)
    (case k30 => k_is)
    (case a31 => k_is)
    (case t31 => k_is)
    (case l31 => k_is)
    (case c31 => k_is)
    (case k31 => k_is)
    (case a32 => k_is)
    (case t32 => k_is)
    (case l32 => k_is)
    (case c32 => k_is)
    (case k32 => k_is)
    (case a33 => k_is)
    (case t33 => k_is)
    (case l33 => k_is)
    (case c33 => k_is)
    (case k33 => k_is)
    (case a34 => k_is)
    (case t34 => k_is)
    (case l34 => k_is)
    (case c34 => k_is)
    (case k34 => k_is)
    (case a35 => k_is)
    (case t35 => k_is)
    (case l35 => k_is)
    (case c35 => k_is)
    (case k35 => k_is)
    (case a36 => k_is)
    (case t36 => k_is)
    (case l36 => k_is)
    (case c36 => k_is)
    (case k36 => k_is)
    (case a37 => k_is)
    (case t37 => k_is)
    (case l37 => k_is)
    (case c37 => k_is)
    (case k37 => k_is)
    (case a38 => k_is)
    (case t38 => k_is)
    (case l38 => k_is)
    (case c38 => k_is)
    (case k38 => k_is)
    (case a39 => k_is)
    (case t39 => k_is)
    (case l39 => k_is)
    (case c39 => k_is)
    (case k39 => k_is)
    (case a40 => k_is)
    (case t40 => k_is)
    (case l40 => k_is)
    (case c40 => k_is)
    (case k40 => k_is)
    (case a41 => k_is)
    (case t41 => k_is)
    (case l41 => k_is)
    (case c41 => k_is)
    (case k41 => k_is)
    (case a42 => k_is)
    (case t42 => k_is)
    (case l42 => k_is)
    (case c42 => k_is)
    (case k42 => k_is)
    (case a43 => k_is)
    (case t43 => k_is)
    (case l43 => k_is)
    (case c43 => k_is)
    (case k43 => k_is)
    (case a44 => k_is)
    (case t44 => k_is)
    (case l44 => k_is)
    (case c44 => k_is)
    (case k44 => k_is)
    (case a45 => k_is)
    (case t45 => k_is)
    (case l45 => k_is)
    (case c45 => k_is)
    (case k45 => k_is)
    (case a46 => k_is)
    (case t46 => k_is)
    (case l46 => k_is)
    (case c46 => k_is)
    (case k46 => k_is)
    (case a47 => k_is)
    (case t47 => k_is)
    (case l47 => k_is)
    (case c47 => k_is)
    (case k47 => k_is)
    (case cg48 => k_is)
    (case a48 => k_is)
    (case l48 => k_is)
    (case c48 => k_is)
    (case k48 => k_is)
    (case fi48 => k_is)
    (case fr => kernel_rfl)
    (case i1 => kernel_rfl)
    (case i2 => kernel_rfl)
    (case i3 => kernel_rfl)
    (case i4 => kernel_rfl)
    (case i5 => kernel_rfl)
    (case i6 => kernel_rfl)
    (case w1 => kernel_rfl)
    (case w2 => kernel_rfl)
    (case w3 => kernel_rfl)
    (case w4 => kernel_rfl)
    (case w5 => kernel_rfl)
    (case w6 => kernel_rfl)
    (case r1 => kernel_rfl)
    (case r3 => kernel_rfl)
    (case r4 => kernel_rfl)
    (case r6 => kernel_rfl)
    (case m1 => kernel_rfl)
    (case m3 => kernel_rfl)
    (case m4 => kernel_rfl)
    (case m5 => kernel_rfl)
    (case m6 => kernel_rfl)
    (case kit => kernel_rfl)
    (case fe => kernel_rfl)
    (case su => kernel_rfl)
    (case fn2 => kernel_rfl)
    (case sf => kernel_rfl)
    (case o1 => kernel_rfl)
    (case o2 => kernel_rfl)
    (case o3 => kernel_rfl)
    (case o4 => kernel_rfl)
    (case gA => k_is)
    (case gB => k_is)
    (case gK => k_is)
    (case gH => k_is)
    (case no1 => k_is)
    (case no2 => k_is)
    (case ne1 => k_is)
    (case aD => k_is)
    (case tD => k_is)
    (case lD => k_is)
    (case cD => kernel_rfl)
    (case hcode => k_is)
    (case hvs => exact rfl)
    (case hfile => kernel_rfl)
    (case htop => kernel_rfl)
    (case hcell => k_is)
    (case hDc => k_is)
    (case hsub => k_is)
    (case hop => k_is)
