import PyProof.Rows.All
import Wide.All
import OpenK.AllK
import Wide.FinOn
import HandS.ForMost
import HandS.RevRange
import HandS.Zip
import HandS.IsInst
import HandS.Conv
import HandS.Wide
import HandS.Evl
import HandS.TupMul
import HandS.TupAny
import KE.GoesEnum
import KE.KDictZip
import HandS.Star
import HandS.TryOnly
import HandS.SetFor
import HandS.Exc
import HandS.ExcOwn
import HandS.WordsExc
import HandS.ExcField
import HandS.ExcIs
import PyProof.ExcBaseAll.LookupError
import PyProof.ExcBaseAll.ValueError
import KE.KExcIs
import HandS.RaiseMore
import PyProof.FString2
import PyProof.PureStr
import PyProof.FactsAll.bool_2
import PyProof.FactsAll.NoneType_2
import PyProof.FactsAll.str_2
import PySem.Challenge.RW_maskedlist_k06_formula_errors
set_option Elab.async false
set_option linter.all false
set_option maxRecDepth 100000
set_option maxHeartbeats 4000000
/-! calls that know that nothing is being shown (no repr runs around): our own layer over the hand layer -/
namespace Vx
open PySem PySem.Spec PyProof.Rows L2
/-- room for k calls, and no repr is under way -/
structure Rm (k : Nat) (A : Around) : Prop where
  r : Room k A
  g : A.guards = some []
theorem Rm.mono {j k : Nat} {A : Around} (h : Rm k A) (le : j ≤ k) : Rm j A := ⟨h.r.mono le, h.g⟩
/-- a def's promise, for calls with Rm -/
structure FnG (P : Program) (w : World) (K : PySem.W.Frag) (mg : Str → Option Value) (base : Heap) (CX : CXT) (k : Nat) (f : Addr) (fd : FuncData) (ps : List Str) (sp : Sp) : Prop where
  ln : ∀ vs H Q E, sp vs H Q E → vs.length = ps.length
  go : ∀ (A : Around) (o : List Env) (s : Shared) (H : Hp) (az : Args) (us : List Value) (vs : List V) (Q : VK) (E : XK), Rm k A → Env0 P w K mg base A o s H → BindsTo s fd az (ps.zip us) → Vals vs us → sp vs H Q E →
    codeAny (model P w) A (.call (.ref f) az) (CR CX o P w H s Q E) s
section
variable {X : Cx} {CX : CXT} {k : Nat} {f : Addr} {fd : FuncData} {ps ks : List Str} {sp : Sp} {dvs : List V} {ds : List Value} {E : XK} {x : Str} {p pos : Pos} {e : Expr} {es : List Expr} {kws : List Keyword} {t tk : TA}
  {g : List Value → List Value → List Value} {gV : List V → List V → List V}
/-- the callee runs at its bound arguments -/
theorem runG {pins : List (Addr × Obj)} {σ : L2.St} {H : Hp} {s : Shared} {Q : VK} {us : List Value} {kw : List (Str × Value)} {bs : List Value} {vs : List V} (F : FnG X.prog X.w X.K X.mg X.base CX k f fd ps sp) (hr : Rm k X.A) (hx : Passes CX X E)
    (I : Inv X pins σ H s) (hb : BindsTo s fd ⟨us, kw⟩ (ps.zip bs)) (r : Vals vs bs) (h : sp vs H Q E) : wpAny (model X.prog X.w) X.A (call (.ref f) us kw) (EP X pins σ Q) X.xe s := by
  refine wpAny_call (codeAny_mono (F.go X.A X.stack s H ⟨us, kw⟩ bs vs Q E hr I.env0 hb r h) ?_)
  intro z s' hq
  match z, hq with
  | .ok (.ret _), hq => exact I.after hq
  | .ok .next, hq => exact False.elim hq
  | .ok .brk, hq => exact False.elim hq
  | .ok .cont, hq => exact False.elim hq
  | .error e, hq => exact hx pins σ H s e s' I hq
theorem ge_call (F : FnG X.prog X.w X.K X.mg X.base CX k f fd ps sp) (hr : Rm k X.A) (hg : Gl X x) (hm : X.mg x = some (.ref f)) (hk : PySem.W.keepIn X.K (.ref f) = true) (hb : Binds X.K fd ps ds) (hd : Vals dvs ds) (hx : Passes CX X E)
    (ha : PA X (e :: es) t) (hdb : (x == ("__debug__" : Str)) = false := by decide) (he : starEach (e :: es) X.env = (false, eval e X.env) :: starEach es X.env := by rfl) (hpl : (backTo pos (starEach es X.env)).any (·.1) = false := by rfl) :
    PE X (.Call (.Name x p) (e :: es) [] pos) (tCall sp dvs E t) := by
  constructor
  intro pins s σ H Q I h
  refine wpAny_Call_Name_kw (ld_glob I hg hm (PySem.W.callWith_K (h₀ := X.base) I.ok.mod.kin hk (thn (ha.run pos pins s σ H _ I h) ?_) he hpl) hdb)
  rintro us s1 ⟨vs, H1, I1, r, q⟩
  have r2 := r.append hd
  have q2 := F.ln _ _ _ _ q
  rw [r2.length] at q2
  exact ⟨I1.kIn, runG F hr hx I1 (hb s1 us I1.kIn q2) r2 q⟩
theorem ge_callK (F : FnG X.prog X.w X.K X.mg X.base CX k f fd ps sp) (hr : Rm k X.A) (hg : Gl X x) (hm : X.mg x = some (.ref f)) (hk : PySem.W.keepIn X.K (.ref f) = true) (hb : KBinds X.K fd ps ks g gV) (hx : Passes CX X E)
    (hkw : PK X kws tk) (hall : (backToKw pos (keywordEach kws X.env)).all (·.1.isSome) = true := by rfl) (hks : (backToKw pos (keywordEach kws X.env)).filterMap (·.1) = ks := by rfl)
    (hdb : (x == ("__debug__" : Str)) = false := by decide)
    (hpl : ((backTo pos (starEach [] X.env)).any (·.1) || (backToKw pos (keywordEach kws X.env)).any (·.1.isNone)) = false := by rfl) :
    PE X (.Call (.Name x p) [] kws pos) (tCallK sp gV E tNil tk) := by
  constructor
  intro pins s σ H Q I h
  refine wpAny_Call_Name_kw (ld_glob I hg hm (PySem.W.callWith_KW0 (h₀ := X.base) I.ok.mod.kin hk hall (thn (hkw.run pos pins s σ H _ I h) ?_) hpl) hdb)
  rintro ws s2 ⟨zs, H2, I2, rz, q2⟩
  rw [hks]
  have r2 := hb.rel (vs := []) (us := []) .nil rz
  have n2 := F.ln _ _ _ _ q2
  rw [r2.length] at n2
  exact ⟨I2.kIn, runG F hr hx I2 (hb.to s2 [] ws I2.kIn n2) r2 q2⟩
end
/-- a def, by its body -/
theorem fn_ofG {CX : CXT} {P : Program} {w : World} {K : PySem.W.Frag} {mg : Str → Option Value} {base : Heap} {k : Nat} {f : Addr} {name qual : Str} {params : Arguments} {body : List Stmt} {scope : Scope} {dV kV doc pm cdv ct oc : Value} {an od : Option Addr}
    {osl : Array (Option Value)} {N ps : List Str} {sp : Sp} (lk : K.lookup f = some ⟨oc, od, .func (PySem.W.fnOf name qual params body scope dV kV doc pm an cdv ct), osl⟩) (hcd : PySem.W.codeIn K cdv qual = true) (S : FnScope N ps scope)
    (ln : ∀ vs H Q E, sp vs H Q E → vs.length = ps.length)
    (hb : ∀ (A : Around) (o : List Env) (s : Shared) (H : Hp) (vs : List V) (Q : VK) (E : XK), Rm k (A.deeper (envOfC qual scope s.heap.objs.size f cdv)) → sp vs H Q E →
      ∃ t, PSs (cxOf CX P w K mg base N qual scope f cdv A o s H E) body t ∧ t { nx := fun _ H' => Q .non H', rt := Q } (start N vs) H) :
    FnG P w K mg base CX (k + 1) f (PySem.W.fnOf name qual params body scope dV kV doc pm an cdv ct) ps sp := by
  constructor
  · exact ln
  intro A o s H az us vs Q E hr e0 bd r hsp
  have len := ln vs H Q E hsp
  have up : ∀ {b : Addr} {ob : Obj}, base.get? b = some ob → s.heap.get? b = some ob := fun q => (e0.bs _ _ q).1
  have KX : K.In s.heap := e0.mod.kin.keeps fun _ _ q => up q
  have lim : s.heap.NoLimit := e0.mod.nolimit.keeps fun _ _ q => up q
  refine codeAny_call_function hr.r.depth (KX _ _ lk) rfl S.co S.gen rfl (PySem.W.codeRec_of KX hcd) (bd _ _ _ _ (wpAny_newFunctionEnv_cells S.kind ?_ ?_))
  · rintro ⟨n, v⟩ hy
    rcases S.par n (List.of_mem_zip hy).1 with q | q
    · exact .inl q
    · exact .inr ⟨q, PySem.W.cellsFrom_some _ _ _ (.inl q)⟩
  · intro env he s1 x
    subst he
    refine ⟨lim.keeps x.toInCall.keep, codeAny_func ?_⟩
    obtain ⟨t, ht, hq⟩ := hb A o s H vs Q E ⟨hr.r.deeper _, hr.g⟩ hsp
    refine wpAny_mono (ht.run [] s1 (start N vs) H _ (inv_start S hr.r.hd e0 len r x) hq) ?_ (fun _ _ z => z)
    intro fl s' z
    match fl, z with
    | .ret u, ⟨v, _, H', J, rv, q⟩ => exact ⟨v, H', J.os, J.bare, J.base, J.hok, rv, q⟩
    | .next, ⟨_, H', J, q⟩ => exact ⟨.non, H', J.os, J.bare, J.base, J.hok, rfl, q⟩
    | .brk, ⟨_, _, _, q⟩ => exact False.elim q
    | .cont, ⟨_, _, _, q⟩ => exact False.elim q
section
variable {P : Program} {w : World} {K : PySem.W.Frag} {mg : Str → Option Value} {base : Heap}
theorem okG {x qual : Str} {st : Stmt} {f : Addr} {fd : FuncData} {N ps : List Str} {k : Nat} {sp : Sp} (F : Fun K x qual st f fd) (S : FnScope N ps (defScope st)) (ln : ∀ vs H Q E, sp vs H Q E → vs.length = ps.length)
    (hb : ∀ (cdv : Value) (A : Around) (o : List Env) (s : Shared) (H : Hp) (vs : List V) (Q : VK) (E : XK), Rm k (A.deeper (envOfC qual (defScope st) s.heap.objs.size f cdv)) → sp vs H Q E →
      ∃ t, PSs (cxOf CX0 P w K mg base N qual (defScope st) f cdv A o s H E).nox (defBody st) t ∧ t { nx := fun _ H' => Q .non H', rt := Q } (start N vs) H) : FnG P w K mg base CX0 (k + 1) f fd ps sp := by
  obtain ⟨oc, od, kV, doc, pm, an, cdv, ct, osl, rfl, lk, hcd⟩ := F.ex
  refine fn_ofG lk hcd S ln ?_
  intro A o s H vs Q E hr hsp
  obtain ⟨t, h, q⟩ := hb cdv A o s H vs Q E hr hsp
  exact ⟨t, h.nox, q⟩
/-- a def that others call: where it stands, how it binds, its promise -/
structure Cal (P : Program) (w : World) (K : PySem.W.Frag) (mg : Str → Option Value) (base : Heap) (x : Str) (k : Nat) (ps : List Str) (sp : Sp) : Prop where
  ex : ∃ f fd, FnG P w K mg base CX0 k f fd ps sp ∧ mg x = some (.ref f) ∧ PySem.W.keepIn K (.ref f) = true ∧ Binds K fd ps []
end
/-- .. that is called by names too: the names as written, how they are put in order -/
structure CalK (P : Program) (w : World) (K : PySem.W.Frag) (mg : Str → Option Value) (base : Heap) (x : Str) (k : Nat) (ps : List Str) (sp : Sp) (ks : List Str) (g : {α : Type} → List α → List α → List α) : Prop where
  ex : ∃ f fd, FnG P w K mg base CX0 k f fd ps sp ∧ mg x = some (.ref f) ∧ PySem.W.keepIn K (.ref f) = true ∧ Binds K fd ps [] ∧ KBinds K fd ps ks g g
/-- at the law's entry: what the abstract heap H tracks is the script at a alone -/
structure Entry (P : Program) (w : World) (K : PySem.W.Frag) (H : Hp) (h : Heap) (a : Addr) (ns : List Int) : Prop where
  only : Only H
  seq : SqL K H a (ns.map V.int)
  ok : HOk P w H h
  one : ∀ b u, H b = some u → b = a
  own : ∀ u, H a = some u → K.lookup a = none
theorem entry_of {P : Program} {w : World} {K : PySem.W.Frag} {h : Heap} {a : Addr} {vs : List Value} {ns : List Int} (KX : K.In h) (ha : h.get? a = some { cls := .type "list", data := .seq vs.toArray })
    (hi : IntsAre vs ns) (hl : ns.length ≤ sizeLine) : ∃ H, Entry P w K H h a ns := by
  have rv : Vals (ns.map V.int) vs := vals_ints hi
  have nl : vs.length = ns.length := hi.length
  match hk : K.lookup a with
  | some o =>
    obtain rfl : _ = o := Option.some.inj (ha.symm.trans (KX a o hk))
    refine ⟨fun _ => none, fun _ => Or.inl rfl, Or.inr ⟨_, vs.toArray, _, hk, rfl, rfl, rfl, ?_, ?_⟩, ?_, ?_, ?_⟩
    · simpa only [List.size_toArray, nl] using hl
    · simpa only using rv
    · intro b u z; cases z
    · intro b u z; cases z
    · intro u z; cases z
  | none =>
    let fz : HO := .frz { cls := .type "list", data := .seq vs.toArray } (.lst (ns.map V.int))
    have at_ : upd (fun _ => none) a fz a = some fz := upd_same
    have off : ∀ b, b ≠ a → upd (fun _ => none) a fz b = none := fun b z => upd_ne z
    refine ⟨upd (fun _ => none) a fz, fun b => ?_, Or.inl (Or.inr ⟨_, at_⟩), fun b u z => ?_, fun b u z => ?_, fun _ _ => hk⟩
    · rcases Decidable.em (b = a) with rfl | q
      · exact Or.inr ⟨_, _, at_⟩
      · exact Or.inl (off b q)
    · rcases Decidable.em (b = a) with rfl | q
      · rw [at_] at z
        obtain rfl := Option.some.inj z
        exact ⟨ha, (by simpa only [List.length_map] using hl), vs, _, rv, ha⟩
      · rw [off b q] at z
        cases z
    · rcases Decidable.em (b = a) with q | q
      · exact q
      · rw [off b q] at z
        cases z
theorem base_at {P : Program} {w : World} {K : PySem.W.Frag} {H : Hp} {h : Heap} {a : Addr} {vs : List Value} {ns : List Int} (E : Entry P w K H h a ns) (ha : h.get? a = some { cls := .type "list", data := .seq vs.toArray })
    {b : Addr} {m : Str → Option Value} (n : h.Ns b m) : (hidT h H).Ns b m := by
  obtain ⟨o, es, ep, e, d, r⟩ := n
  refine ⟨o, es, ep, hidT_get e ?_, d, r⟩
  match q : H b with
  | none => rfl
  | some u =>
    obtain rfl := E.one b u q
    rw [ha] at e
    obtain rfl := Option.some.inj e
    cases d
theorem base_in {P : Program} {w : World} {K : PySem.W.Frag} {H : Hp} {h : Heap} {a : Addr} {ns : List Int} (E : Entry P w K H h a ns) (KX : K.In h) : K.In (hidT h H) := by
  intro b o e
  refine hidT_get (KX b o e) ?_
  match q : H b with
  | none => rfl
  | some u =>
    obtain rfl := E.one b u q
    rw [E.own u q] at e
    cases e
theorem law_end {P : Program} {w : World} {K : PySem.W.Frag} {mg mb : Str → Option Value} {k : Nat} {fa a : Addr} {fd : FuncData} {x : Str} {sp : Sp} {z : Shared} {vs : List Value} {ns : List Int}
    (KX : K.In z.heap) (g1 : z.heap.Ns mainGlobals mg) (g2 : z.heap.Ns builtinsNs mb) (g3 : ∀ y : Str, y ≠ "__name__" → mb y = bootBuiltins y) (g4 : z.heap.NoLimit) (g5 : z.gens = #[])
    (ha : z.heap.get? a = some { cls := .type "list", data := .seq vs.toArray }) (hi : IntsAre vs ns) (hl : ns.length ≤ sizeLine) (hr : Room k callerA)
    (F : ∀ base : Heap, K.In base → base.Ns mainGlobals mg → FnG P w K mg base CX0 k fa fd [x] sp) (bd : ∀ (s : Shared) (u : Value), BindsTo s fd ⟨[u], []⟩ [(x, u)])
    (hsp : ∀ H : Hp, Only H → SqL K H a (ns.map V.int) → sp [.ref a] H (fun v _ => v = .bl true) fun _ _ _ => False) :
    codeAny (model P w) callerA (.call (.ref fa) ⟨[.ref a], []⟩) (fun r y => r = .ok (.ret (.bool true)) ∧ OldK z.heap y.heap ∧ y.os = z.os ∧ AllBare y.gens) z := by
  obtain ⟨H, E⟩ := entry_of (P := P) (w := w) KX ha hi hl
  have kb := base_in E KX
  have nb := base_at E ha g1
  obtain ⟨mc, c1, c2⟩ := g4
  have M : Mod K mg (hidT z.heap H) := ⟨kb, nb, ⟨mb, base_at E ha g2, g3⟩, ⟨mc, base_at E ha c1, c2⟩⟩
  have nofr : ∀ b, b ∉ frs [] := fun b hb => nomatch hb
  have e0 : Env0 P w K mg (hidT z.heap H) callerA [] z H := ⟨rfl, M, fun _ _ q => of_hidT q, Nat.le_of_eq (hidT_size _ _), trivial, fun b hb => absurd hb (nofr b), E.ok, .of_eq g5⟩
  refine codeAny_mono ((F _ kb nb).go callerA [] z H ⟨[.ref a], []⟩ [.ref a] [.ref a] _ _ ⟨hr, rfl⟩ e0 (bd z (.ref a)) (.cons rfl .nil) (hsp H E.only E.seq)) ?_
  intro r y q
  match r, q with
  | .ok (.ret u), q =>
    obtain ⟨v, H', os, bare, un, ok', rv, qv⟩ := q
    obtain rfl : v = V.bl true := qv
    obtain rfl : u = Value.bool true := rv
    refine ⟨rfl, OldK.of_keep ?_, os, bare⟩
    intro b o e
    match q : H b with
    | none => exact un.keep b o e q (nofr b) (fun hb => nomatch hb)
    | some u =>
      rcases E.only b with n | ⟨ob, xs, n⟩
      · rw [q] at n; cases n
      · have o1 := (E.ok b _ n).1
        have o2 := (ok' b _ (un.frzs b ob _ n)).1
        exact (o2.trans o1.symm).trans e
/-- the goal behind k_head -/
theorem walkG {l : PySem.W.OpenLaw} {n k : Nat} {q : Program} {loose : List Str} {XP : (Str → Option Value) → Heap → Prop} {YP : World → Heap → Prop} {d : DefRec} {K : Params → PySem.W.Frag} {sp : World → Sp} {x : Str}
    (hn : l.most = some n) (n2 : n ≤ sizeLine) (hdf : d.params.defaults = []) (hr : Room k callerA) (hY : ∀ (w : World) (h : Heap), YP w h → (K w.params).In h)
    (F : ∀ (w : World) (mg : Str → Option Value) (fa : Addr) (h : Heap), (K w.params).In h → h.Ns mainGlobals mg → mg d.name = some (.ref fa) →
      ∃ fd : FuncData, (∀ (s : Shared) (u : Value), BindsTo s fd ⟨[u], []⟩ [(x, u)]) ∧ ∀ base : Heap, (K w.params).In base → base.Ns mainGlobals mg → FnG l.prog w (K w.params) mg base CX0 k fa fd [x] (sp w))
    (hsp : ∀ (w : World) (H : Hp) (a : Addr) (ns : List Int), ns.length ≤ n → Only H → SqL (K w.params) H a (ns.map V.int) → sp w [.ref a] H (fun v _ => v = .bl true) fun _ _ _ => False) :
    PySem.W.WalkO q loose XP YP l.row.toRowW d [] (fun f vs => PySem.call f vs) := by
  apply Att.attach_call hn hdf
  intro w s₀ z mg mb fa o pm cd doc a vs ns G Y _ _ _ hmg hobj hi hl hg
  have KX := hY w _ Y
  obtain ⟨fd, hb, hF⟩ := F w mg fa _ KX G.T.g hmg
  exact law_end KX G.T.g G.T.b G.T.builtins G.T.nolimit hg hobj hi (Nat.le_trans hl n2) hr hF hb fun H h1 h2 => hsp w H a ns hl h1 h2
end Vx

namespace Vx
open PySem PySem.Spec PyProof.Rows L2
/-! the pen: a list of three, whose first item is a list of ints -/
theorem sq_ne {K : PySem.W.Frag} {H : Hp} {c p : Addr} {o : HO} {xs : List V} (h : SqL K H c xs) (n : c ≠ p) : SqL K (upd H p o) c xs := by
  rcases h with (h | ⟨q, h⟩) | h
  · exact .inl (.inl (by rw [upd_ne n]; exact h))
  · exact .inl (.inr ⟨q, by rw [upd_ne n]; exact h⟩)
  · exact .inr h
def PenAt (K : PySem.W.Frag) (H : Hp) (p c : Addr) (ns : List Int) (i m : Int) : Prop := H p = some (.lst [.ref c, .int i, .int m]) ∧ SqL K H c (ns.map V.int) ∧ c ≠ p
def Pen (K : PySem.W.Frag) (H : Hp) (p : Addr) : Prop := ∃ c ns i m, PenAt K H p c ns i m
/-- all that was tracked is as it was, but what stands at p -/
def But (p : Addr) (H H' : Hp) : Prop := ∀ b o, b ≠ p → H b = some o → H' b = some o
theorem But.refl (p : Addr) (H : Hp) : But p H H := fun _ _ _ h => h
theorem But.trans {p : Addr} {H H1 H2 : Hp} (a : But p H H1) (b : But p H1 H2) : But p H H2 := fun c o n h => b c o n (a c o n h)
theorem But.upd {p : Addr} {H : Hp} {o : HO} : But p H (L2.upd H p o) := fun b u n h => by rw [upd_ne n]; exact h
theorem same_new {H : Hp} {p : Addr} (h : H p = none) (o : HO) : Same H (upd H p o) := fun b u q => by rw [upd_ne (ne_of_none q h)]; exact q
theorem But.same {p : Addr} {H H' : Hp} (s : Same H H') : But p H H' := fun b o _ h => s b o h
theorem But.new {p q : Addr} {H : Hp} (h : H q = none) (o : HO) : But p H (L2.upd H q o) := .same (same_new h o)
theorem But.get {p b : Addr} {H H' : Hp} {o u : HO} (k : But p H H') (hp : H p = some u) (hb : H b = some o) (d : o ≠ u) : H' b = some o := k b o (ne_of hb hp d) hb
theorem PenAt.put {K : PySem.W.Frag} {H : Hp} {p c : Addr} {ns : List Int} {i m : Int} (h : PenAt K H p c ns i m) (j k : Int) : PenAt K (upd H p (.lst [.ref c, .int j, .int k])) p c ns j k :=
  ⟨upd_same, sq_ne h.2.1 h.2.2, h.2.2⟩
theorem Pen.same {K : PySem.W.Frag} {H H' : Hp} {p : Addr} (h : Pen K H p) (s : Same H H') : Pen K H' p := by
  obtain ⟨c, ns, i, m, h1, h2, h3⟩ := h
  exact ⟨c, ns, i, m, s _ _ h1, s.seq h2, h3⟩
theorem Pen.new {K : PySem.W.Frag} {H : Hp} {p q : Addr} (h : Pen K H p) (n : H q = none) (o : HO) : Pen K (upd H q o) p := h.same (same_new n o)
theorem But.seq {K : PySem.W.Frag} {H H' : Hp} {p a : Addr} {xs : List V} (k : But p H H') (n : a ≠ p) (h : SqL K H a xs) : SqL K H' a xs := by
  rcases h with (h | ⟨o, h⟩) | h
  · exact .inl (.inl (k _ _ n h))
  · exact .inl (.inr ⟨o, k _ _ n h⟩)
  · exact .inr h
theorem But.seqT {K : PySem.W.Frag} {H H' : Hp} {p a : Addr} {xs : List V} (k : But p H H') (n : a ≠ p) (h : SqT K H a xs) : SqT K H' a xs := by
  rcases h with (h | ⟨o, h⟩) | h
  · exact .inl (.inl (k _ _ n h))
  · exact .inl (.inr ⟨o, k _ _ n h⟩)
  · exact .inr h
theorem Same.seqT {K : PySem.W.Frag} {H H' : Hp} {a : Addr} {xs : List V} (e : Same H H') (h : SqT K H a xs) : SqT K H' a xs := by
  rcases h with (h | ⟨o, h⟩) | h
  · exact .inl (.inl (e _ _ h))
  · exact .inl (.inr ⟨o, e _ _ h⟩)
  · exact .inr h
theorem Pen.free {K : PySem.W.Frag} {H : Hp} {p q : Addr} (h : Pen K H p) (n : H q = none) : q ≠ p := by
  obtain ⟨c, ns, i, m, h1, _⟩ := h
  exact fun e => by rw [e, h1] at n; cases n
theorem cutV_map (ns : List Int) (lo hi : Option Int) : ∃ ms : List Int, cutV (ns.map V.int) lo hi = ms.map V.int := by
  unfold cutV
  rw [List.length_map]
  exact ⟨(ns.drop _).take _, by rw [List.map_take, List.map_drop]⟩
theorem cutV_maps (ns : List Int) (lo hi : Option Int) : ∃ ms : List Int, cutV (ns.map V.int) lo hi = ms.map V.int ∧ ms.length ≤ ns.length := by
  obtain ⟨ms, h⟩ := cutV_map ns lo hi
  refine ⟨ms, h, ?_⟩
  have := cutV_length (ns.map V.int) lo hi
  rw [h, List.length_map, List.length_map] at this
  exact this
/-- an int list's item -/
theorem at_map {ns : List Int} {i : Int} (h0 : 0 ≤ i) (h : i < ns.length) : ∃ v : Int, atI (ns.map V.int) i = some (.int v) := by
  have hk : i.toNat < ns.length := by omega
  have e : i = ((i.toNat : Nat) : Int) := by omega
  refine ⟨ns[i.toNat], ?_⟩
  generalize hg : ns[i.toNat] = v
  rw [e]
  subst hg
  exact atI_nat (by rw [List.getElem?_map, List.getElem?_eq_getElem (by omega)]; rfl)
theorem dp_ints (K : PySem.W.Frag) (H : Hp) : ∀ ns : List Int, DpAll K H (ns.map V.int) (ns.map PyData.int)
  | [] => .nil
  | n :: ns => .cons (.int n) (dp_ints K H ns)
theorem lay_ints : ∀ ns : List Int, PyData.canLayAll0 (ns.map PyData.int) = true
  | [] => rfl
  | n :: ns => by
    show (PyData.canLay0 (.int n) && PyData.canLayAll0 (ns.map PyData.int)) = true
    rw [lay_ints ns]
    rfl
theorem depth_ints : ∀ ns : List Int, PyData.depthAll (ns.map PyData.int) = 0
  | [] => rfl
  | n :: ns => by
    show max (PyData.depth (.int n)) (PyData.depthAll (ns.map PyData.int)) = 0
    rw [depth_ints ns]
    rfl
theorem shaped_ints (ns : List Int) : SeqAt.shaped (.list (ns.map PyData.int)) = true := by
  show (PyData.canLayAll0 (ns.map PyData.int) && decide (PyData.depthAll (ns.map PyData.int) + 1 ≤ 64)) = true
  rw [lay_ints, depth_ints]
  rfl
theorem eqv_ints_nil (ns : List Int) : PyData.eqv (.list (ns.map PyData.int)) (.list []) = true → ns = [] := by
  intro h
  cases ns with
  | nil => rfl
  | cons a r => cases h
/-- some draws lie between: the pen's own list may have changed in its two numbers, nothing else that was tracked -/
def Dr (p : Addr) (H H' : Hp) : Prop := But p H H' ∧ ∀ c i m, H p = some (.lst [.ref c, .int i, .int m]) → ∃ j k, H' p = some (.lst [.ref c, .int j, .int k])
theorem Dr.but {p : Addr} {H H' : Hp} (d : Dr p H H') : But p H H' := d.1
theorem Dr.refl (p : Addr) (H : Hp) : Dr p H H := ⟨.refl _ _, fun c i m h => ⟨i, m, h⟩⟩
theorem Dr.trans {p : Addr} {H H1 H2 : Hp} (a : Dr p H H1) (b : Dr p H1 H2) : Dr p H H2 := ⟨a.1.trans b.1, fun c i m h => by
  obtain ⟨j, k, h1⟩ := a.2 c i m h
  exact b.2 c j k h1⟩
theorem Dr.same {p : Addr} {H H' : Hp} (s : Same H H') : Dr p H H' := ⟨.same s, fun c i m h => ⟨i, m, s _ _ h⟩⟩
theorem Dr.new {p q : Addr} {H : Hp} (h : H q = none) (o : HO) : Dr p H (L2.upd H q o) := .same (same_new h o)
theorem Dr.pen {K : PySem.W.Frag} {p : Addr} {H H' : Hp} (d : Dr p H H') (h : Pen K H p) : Pen K H' p := by
  obtain ⟨c, ns, i, m, h1, h2, h3⟩ := h
  obtain ⟨j, k, h4⟩ := d.2 c i m h1
  exact ⟨c, ns, j, k, h4, d.1.seq h3 h2, h3⟩
theorem Dr.mut {K : PySem.W.Frag} {p D : Addr} {H H' : Hp} {o : HO} (d : Dr p H H') (hP : Pen K H p) (h : H D = none) : Dr p H (L2.upd H' D o) := by
  have ne : D ≠ p := hP.free h
  refine ⟨fun b u nb hb => ?_, fun c i m hc => ?_⟩
  · rw [upd_ne (ne_of_none hb h)]
    exact d.1 b u nb hb
  · obtain ⟨j, k, h4⟩ := d.2 c i m hc
    exact ⟨j, k, by rw [upd_ne (Ne.symm ne)]; exact h4⟩
theorem Dr.put {K : PySem.W.Frag} {p c : Addr} {H H' : Hp} {ns : List Int} {i m : Int} (b : But p H H') (h0 : PenAt K H p c ns i m) {j k : Int} (h : H' p = some (.lst [.ref c, .int j, .int k])) : Dr p H H' := ⟨b, fun c' i' m' h' => by
  rw [h0.1] at h'
  cases h'
  exact ⟨j, k, h⟩⟩
end Vx

namespace Vx
open PySem PySem.Spec PyProof.Rows L2
/-! (x, ..) * k for small k: one time is the tuple itself, no time the empty tuple -/
theorem times_one (l : Addr) (items : Array Value) (n : Nat) (dd : Option Addr) (sl : Array (Option Value)) (u : Tok) (c : (items.isEmpty || (1 : Int) == 1) = true) :
    Meets (Builtin.«tuple.__mul__» ⟨[.ref l, .int 1 u], []⟩) (fun _ R s => s.heap.get? l = some { cls := .type "tuple", dict := dd, data := .seq items n, slots := sl } ∧ R (.ok (.ret (Value.ref l))) s) :=
  .of_wp fun prog w A R s h => by
    obtain ⟨hp, g, d, tk, os⟩ := s
    obtain ⟨hl, h⟩ := h
    have f1 := AutoSeq1.idx_int
    wp_walk using wpAny_loadPart' hl
    repeat (first
      | (refine wpAny_ite_true c ?_; wp_walk using wpAny_loadPart' hl))
    exact ⟨_, rfl, h⟩
theorem times_none (l : Addr) (items : Array Value) (n : Nat) (dd : Option Addr) (sl : Array (Option Value)) (x : Int) (u : Tok) (c0 : (decide (x < -(2 ^ 63)) || decide (x ≥ 2 ^ 63)) = false) (c1 : (items.isEmpty || x == 1) = false) (c2 : (decide (x ≤ 0) || items.isEmpty) = true) :
    Meets (Builtin.«tuple.__mul__» ⟨[.ref l, .int x u], []⟩) (fun _ R s => s.heap.get? l = some { cls := .type "tuple", dict := dd, data := .seq items n, slots := sl } ∧
      R (.ok (.ret (Value.ref s.heap.objs.size))) { s with heap := s.heap.push { cls := Value.type "tuple", data := Data.seq #[] }, toks := s.toks }) :=
  .of_wp fun prog w A R s h => by
    obtain ⟨hp, g, d, tk, os⟩ := s
    obtain ⟨hl, h⟩ := h
    have f1 := AutoSeq1.idx_int
    wp_walk using wpAny_loadPart' hl
    repeat (first
      | (refine wpAny_ite_false (decide_eq_false (by rw [c0]; exact Bool.false_ne_true)) ?_; wp_walk using wpAny_loadPart' hl)
      | (refine wpAny_ite_false (decide_eq_false (by rw [c1]; exact Bool.false_ne_true)) ?_; wp_walk using wpAny_loadPart' hl)
      | (refine wpAny_ite_true (decide_eq_true c2) ?_; wp_walk using wpAny_loadPart' hl))
    exact ⟨_, rfl, h⟩
section
variable {X : Cx}
/-- what comes is some tuple of these items, new or not -/
def someT (K : PySem.W.Frag) (xs : List V) (H : Hp) (Q : VK) : Prop := ∀ (r : Addr) (H' : Hp), Same H H' → SqT K H' r xs → Q (.ref r) H'
theorem someT.new {K : PySem.W.Frag} {xs : List V} {H : Hp} {Q : VK} (h : someT K xs H Q) : ∀ p, H p = none → Q (.ref p) (upd H p (.tup xs)) := fun p hp => h p _ (same_new hp _) (SqT.of upd_same)
theorem someT.old {K : PySem.W.Frag} {xs : List V} {H : Hp} {Q : VK} {a : Addr} (h : someT K xs H Q) (hx : SqT K H a xs) : Q (.ref a) H := h a H (Same.refl H) hx
def rCatS (K : PySem.W.Frag) : R2 := fun x y H Q => ∃ a b xs ys, x = .ref a ∧ y = .ref b ∧ SqT K H a xs ∧ SqT K H b ys ∧ xs.length + ys.length ≤ sizeLine ∧ someT K (xs ++ ys) H Q
theorem op_catS : OpR X (binaryOp .Add) (rCatS X.K) := by
  intro pins s σ H x y v u Q I rx ry h
  obtain ⟨a, b, xs, ys, ea, eb, ha, hb, hz, q⟩ := h
  refine op_catA pins s σ H x y v u Q I rx ry ⟨a, b, xs, ys, ea, eb, ha, hb, hz, fun e => ?_, fun _ e => ?_, fun _ _ => q.new⟩
  · subst e
    exact q.old hb
  · subst e
    exact q.old (by rw [List.append_nil]; exact ha)
def rRepS (K : PySem.W.Frag) : R2 := fun x y H Q => ∃ l k xs, x = .ref l ∧ y = .int k ∧ SqT K H l xs ∧ xs ≠ [] ∧ -1000 ≤ k ∧ k ≤ 1000 ∧ xs.length ≤ 1000 ∧ someT K (List.replicate k.toNat xs).flatten H Q
theorem op_repS : OpR X (binaryOp .Mult) (rRepS X.K) := by
  intro pins s σ H x y v u Q I rx ry h
  obtain ⟨l, k, xs, rfl, rfl, hT, hne, h1, h2, hz, q⟩ := h
  by_cases k2 : 2 ≤ k
  · exact op_repT pins s σ H _ _ v u Q I rx ry ⟨l, k, xs, rfl, rfl, hT, hne, k2, h2, hz, q.new⟩
  cases rx
  obtain ⟨t, rfl⟩ := ry
  obtain ⟨its, r, ⟨⟨cls, dd, data, sl⟩, ho, hc, n, hd⟩, hs⟩ := I.tuple hT
  simp only at hc hd
  subst hc hd
  have hle : its.length = xs.length := r.length.symm
  have hi : its.toArray.isEmpty = false := by
    match its, hle with
    | [], e => exact absurd (List.eq_nil_of_length_eq_zero e.symm) hne
    | _ :: _, _ => rfl
  by_cases k1 : k = 1
  · subst k1
    have c1 : (its.toArray.isEmpty || (1 : Int) == 1) = true := by rw [hi]; rfl
    refine wpAny_binaryOp_repeat_ref (T := "tuple") (U := "int") (by decide) ⟨_, ho, rfl⟩ (fun s' => typeIs_int s' 1 t) noFill_tuple_mul F.fills_int_mul F.slot_int_rmul repeat_tuple F.slot_int_index.lookup ?_
    refine call_meets F.slot_int_rmul (typeIs_int s 1 t) F.entry_int_rmul (F.args_int_rmul_2 _ _) (int_rmul_tuple 1 t l its.toArray n dd sl) ⟨ho, rfl, ⟨_, ho, rfl⟩, ?_⟩
    refine call_meets F.slot_tuple_mul ⟨_, ho, rfl⟩ F.entry_tuple_mul (F.args_tuple_mul_2 _ _) (times_one l its.toArray n dd sl t c1) ⟨ho, ?_⟩
    exact ⟨.ref l, H, I, rfl, q.old (by simpa using hT)⟩
  · have k0 : k ≤ 0 := by omega
    have e0 : k.toNat = 0 := by omega
    rw [e0] at q
    have c0 : (decide (k < -(2 ^ 63)) || decide (k ≥ 2 ^ 63)) = false := by
      rw [decide_eq_false (by omega), decide_eq_false (by omega)]; rfl
    have c1 : (its.toArray.isEmpty || k == 1) = false := by
      rw [hi, Bool.false_or]
      exact beq_eq_false_iff_ne.mpr k1
    have c2 : (decide (k ≤ 0) || its.toArray.isEmpty) = true := by rw [decide_eq_true k0]; rfl
    refine wpAny_binaryOp_repeat_ref (T := "tuple") (U := "int") (by decide) ⟨_, ho, rfl⟩ (fun s' => typeIs_int s' k t) noFill_tuple_mul F.fills_int_mul F.slot_int_rmul repeat_tuple F.slot_int_index.lookup ?_
    refine call_meets F.slot_int_rmul (typeIs_int s k t) F.entry_int_rmul (F.args_int_rmul_2 _ _) (int_rmul_tuple k t l its.toArray n dd sl) ⟨ho, rfl, ⟨_, ho, rfl⟩, ?_⟩
    refine call_meets F.slot_tuple_mul ⟨_, ho, rfl⟩ F.entry_tuple_mul (F.args_tuple_mul_2 _ _) (times_none l its.toArray n dd sl k t c0 c1 c2) ⟨ho, ?_⟩
    have hp : H s.heap.objs.size = none := I.hok.fresh (Nat.le_refl _)
    refine ⟨.ref s.heap.objs.size, _, I.laid (t' := s.toks) (o := .tup []) (fun b ob e => Heap.get?_push_of_some _ e) (Nat.le_refl _) ?_, rfl, q.new _ hp⟩
    exact ⟨Nat.zero_le _, [], .nil, IsTup.new _ _⟩
def rSlS (K : PySem.W.Frag) : V → Option Int → Option Int → Hp → VK → Prop := fun x lo hi H Q => ∃ a xs, x = .ref a ∧ SqT K H a xs ∧ someT K (cutV xs lo hi) H Q
theorem cutV_whole {xs : List V} {lo hi : Option Int} (h : HT.sIx xs.length 0 lo = 0 ∧ HT.sIx xs.length xs.length hi = xs.length) : cutV xs lo hi = xs := by
  unfold cutV
  rw [h.1, h.2, List.drop_zero, Nat.sub_zero, List.take_length]
theorem sl_tupS : SlR X (rSlS X.K) := by
  intro pins s σ H x v vl vu lo hi sl Q I rx hs pl pu h
  obtain ⟨a, xs, e, hx, q⟩ := h
  exact sl_tupA pins s σ H x v vl vu lo hi sl Q I rx hs pl pu ⟨a, xs, e, hx, fun w => q.old (by rw [cutV_whole w]; exact hx), fun _ => q.new⟩
end
end Vx

/-! sums and square matrices of ints modulo q, in plain Lean -/
namespace Vx
def sm : Nat → (Nat → Int) → Int
  | 0, _ => 0
  | n + 1, f => sm n f + f n
theorem sm_congr {n : Nat} {f g : Nat → Int} (h : ∀ k, k < n → f k = g k) : sm n f = sm n g := by
  induction n with
  | zero => rfl
  | succ n ih =>
    show sm n f + f n = sm n g + g n
    rw [ih fun k hk => h k (by omega), h n (by omega)]
theorem sm_zero (n : Nat) : sm n (fun _ => 0) = 0 := by
  induction n with
  | zero => rfl
  | succ n ih =>
    show sm n (fun _ => 0) + 0 = 0
    rw [ih]; rfl
theorem sm_zero' {n : Nat} {f : Nat → Int} (h : ∀ k, k < n → f k = 0) : sm n f = 0 := by
  rw [sm_congr h, sm_zero]
theorem sm_add (n : Nat) (f g : Nat → Int) : sm n (fun k => f k + g k) = sm n f + sm n g := by
  induction n with
  | zero => rfl
  | succ n ih =>
    show sm n (fun k => f k + g k) + (f n + g n) = (sm n f + f n) + (sm n g + g n)
    rw [ih]; omega
theorem sm_mulL (c : Int) (n : Nat) (f : Nat → Int) : sm n (fun k => c * f k) = c * sm n f := by
  induction n with
  | zero => show (0 : Int) = c * 0; omega
  | succ n ih =>
    show sm n (fun k => c * f k) + c * f n = c * (sm n f + f n)
    rw [ih, Int.mul_add]
theorem sm_mulR (c : Int) (n : Nat) (f : Nat → Int) : sm n (fun k => f k * c) = sm n f * c := by
  induction n with
  | zero => show (0 : Int) = 0 * c; omega
  | succ n ih =>
    show sm n (fun k => f k * c) + f n * c = (sm n f + f n) * c
    rw [ih, Int.add_mul]
theorem sm_comm (n m : Nat) (f : Nat → Nat → Int) : sm n (fun i => sm m fun j => f i j) = sm m fun j => sm n fun i => f i j := by
  induction n with
  | zero =>
    show (0 : Int) = sm m fun _ => 0
    rw [sm_zero]
  | succ n ih =>
    show sm n (fun i => sm m fun j => f i j) + sm m (fun j => f n j) = sm m fun j => (sm n fun i => f i j) + f n j
    rw [ih, sm_add]
/-- one term alone -/
theorem sm_one {n i : Nat} {f : Nat → Int} (hi : i < n) (h : ∀ k, k < n → k ≠ i → f k = 0) : sm n f = f i := by
  induction n with
  | zero => omega
  | succ n ih =>
    show sm n f + f n = f i
    by_cases e : i = n
    · subst e
      rw [sm_zero' fun k hk => h k (by omega) (by omega)]; omega
    · rw [ih (by omega) fun k hk => h k (by omega), h n (by omega) (by omega)]; omega
/-- the sum from one term on -/
theorem sm_split {n i : Nat} {f : Nat → Int} (hi : i ≤ n) (h : ∀ k, k < i → f k = 0) : sm n f = sm (n - i) fun k => f (i + k) := by
  induction n with
  | zero =>
    obtain rfl : i = 0 := by omega
    rfl
  | succ n ih =>
    by_cases e : i = n + 1
    · subst e
      rw [sm_zero' fun k hk => h k (by omega), Nat.sub_self]; rfl
    · have e2 : n + 1 - i = (n - i) + 1 := by omega
      rw [e2]
      show sm n f + f n = (sm (n - i) fun k => f (i + k)) + f (i + (n - i))
      rw [ih (by omega), show i + (n - i) = n by omega]
def Cg (q a b : Int) : Prop := a % q = b % q
theorem Cg.refl (q a : Int) : Cg q a a := rfl
theorem Cg.of_eq {q a b : Int} (h : a = b) : Cg q a b := by rw [h]; rfl
theorem Cg.symm {q a b : Int} (h : Cg q a b) : Cg q b a := Eq.symm h
theorem Cg.trans {q a b c : Int} (h : Cg q a b) (k : Cg q b c) : Cg q a c := Eq.trans h k
theorem Cg.add {q a b c d : Int} (h : Cg q a b) (k : Cg q c d) : Cg q (a + c) (b + d) := by
  unfold Cg at *
  rw [Int.add_emod, h, k, ← Int.add_emod]
theorem Cg.mul {q a b c d : Int} (h : Cg q a b) (k : Cg q c d) : Cg q (a * c) (b * d) := by
  unfold Cg at *
  rw [Int.mul_emod, h, k, ← Int.mul_emod]
theorem Cg.neg {q a b : Int} (h : Cg q a b) : Cg q (-a) (-b) := by
  have := (Cg.refl q (-1)).mul h
  simpa using this
theorem Cg.sub {q a b c d : Int} (h : Cg q a b) (k : Cg q c d) : Cg q (a - c) (b - d) := by
  rw [Int.sub_eq_add_neg, Int.sub_eq_add_neg]
  exact h.add k.neg
theorem Cg.mod (q a : Int) : Cg q (a % q) a := Int.emod_emod_of_dvd a (Int.dvd_refl q)
theorem Cg.eq {q a b : Int} (h : Cg q a b) (a0 : 0 ≤ a) (a1 : a < q) (b0 : 0 ≤ b) (b1 : b < q) : a = b := by
  unfold Cg at h
  rw [Int.emod_eq_of_lt a0 a1, Int.emod_eq_of_lt b0 b1] at h
  exact h
theorem sm_cg {q : Int} {n : Nat} {f g : Nat → Int} (h : ∀ k, k < n → Cg q (f k) (g k)) : Cg q (sm n f) (sm n g) := by
  induction n with
  | zero => exact .refl _ _
  | succ n ih => exact (ih fun k hk => h k (by omega)).add (h n (by omega))
/-! matrices as functions -/
abbrev Fm := Nat → Nat → Int
def mm (n : Nat) (A B : Fm) : Fm := fun i j => sm n fun k => A i k * B k j
def dl : Fm := fun i j => if i = j then 1 else 0
def Eqm (q : Int) (n : Nat) (A B : Fm) : Prop := ∀ i j, i < n → j < n → Cg q (A i j) (B i j)
theorem Eqm.refl (q : Int) (n : Nat) (A : Fm) : Eqm q n A A := fun _ _ _ _ => .refl _ _
theorem Eqm.symm {q : Int} {n : Nat} {A B : Fm} (h : Eqm q n A B) : Eqm q n B A := fun i j a b => (h i j a b).symm
theorem Eqm.trans {q : Int} {n : Nat} {A B C : Fm} (h : Eqm q n A B) (k : Eqm q n B C) : Eqm q n A C := fun i j a b => (h i j a b).trans (k i j a b)
theorem Eqm.mm {q : Int} {n : Nat} {A B C D : Fm} (h : Eqm q n A B) (k : Eqm q n C D) : Eqm q n (mm n A C) (mm n B D) := fun i j a b => sm_cg fun x hx => (h i x a hx).mul (k x j hx b)
theorem mm_assoc (n : Nat) (A B C : Fm) (i j : Nat) : mm n (mm n A B) C i j = mm n A (mm n B C) i j := by
  show sm n (fun k => (sm n fun l => A i l * B l k) * C k j) = sm n fun l => A i l * sm n fun k => B l k * C k j
  rw [sm_congr fun k _ => (sm_mulR (C k j) n fun l => A i l * B l k).symm, sm_comm]
  refine sm_congr fun l _ => ?_
  rw [← sm_mulL]
  exact sm_congr fun k _ => Int.mul_assoc _ _ _
theorem mm_assocE (q : Int) (n : Nat) (A B C : Fm) : Eqm q n (mm n (mm n A B) C) (mm n A (mm n B C)) := fun i j _ _ => .of_eq (mm_assoc n A B C i j)
theorem mm_oneL (q : Int) (n : Nat) (A : Fm) : Eqm q n (mm n dl A) A := fun i j a b => .of_eq (by
  show sm n (fun k => dl i k * A k j) = A i j
  rw [sm_one a fun k _ hk => by show (if i = k then (1 : Int) else 0) * A k j = 0; rw [if_neg (Ne.symm hk)]; omega]
  show (if i = i then (1 : Int) else 0) * A i j = A i j
  rw [if_pos rfl]; omega)
theorem mm_oneR (q : Int) (n : Nat) (A : Fm) : Eqm q n (mm n A dl) A := fun i j a b => .of_eq (by
  show sm n (fun k => A i k * dl k j) = A i j
  rw [sm_one b fun k _ hk => by show A i k * (if k = j then (1 : Int) else 0) = 0; rw [if_neg hk]; omega]
  show A i j * (if j = j then (1 : Int) else 0) = A i j
  rw [if_pos rfl]; omega)
/-- B is a right inverse of A -/
def RI (q : Int) (n : Nat) (A B : Fm) : Prop := Eqm q n (mm n A B) dl
/-- a right inverse with a right inverse of its own is a left inverse -/
theorem RI.left {q : Int} {n : Nat} {A B C : Fm} (h : RI q n A B) (k : RI q n B C) : RI q n B A := by
  have e1 : Eqm q n A C := (mm_oneR q n A).symm.trans (((Eqm.refl q n A).mm k.symm).trans ((mm_assocE q n A B C).symm.trans ((h.mm (.refl q n C)).trans (mm_oneL q n C))))
  exact ((Eqm.refl q n B).mm e1).trans k
/-- two right inverses are one, where one is a left inverse too -/
theorem RI.unique {q : Int} {n : Nat} {A B C : Fm} (h : RI q n A B) (k : RI q n A C) (l : RI q n B A) : Eqm q n B C :=
  (mm_oneR q n B).symm.trans (((Eqm.refl q n B).mm k.symm).trans ((mm_assocE q n B A C).symm.trans ((l.mm (.refl q n C)).trans (mm_oneL q n C))))
/-- unitriangular -/
def Ut (n : Nat) (A : Fm) : Prop := ∀ i j, i < n → j < n → (j < i → A i j = 0) ∧ (j = i → A i j = 1)
/-! a right inverse by back substitution -/
def bk (A : Fm) (j : Nat) : Nat → Int
  | 0 => 1
  | d + 1 => - sm (d + 1) (fun e => if h : e < d + 1 then A (j - (d + 1)) (j - e) * bk A j e else 0)
theorem bk_zero (A : Fm) (j : Nat) : bk A j 0 = 1 := by rw [bk]
theorem bk_succ (A : Fm) (j d : Nat) : bk A j (d + 1) = - sm (d + 1) (fun e => A (j - (d + 1)) (j - e) * bk A j e) := by
  rw [bk]
  congr 1
  exact sm_congr fun k hk => dif_pos hk
theorem sm_head (n : Nat) (f : Nat → Int) : sm (n + 1) f = f 0 + sm n (fun k => f (k + 1)) := by
  induction n with
  | zero => show (0 : Int) + f 0 = f 0 + 0; omega
  | succ n ih =>
    show sm (n + 1) f + f (n + 1) = f 0 + (sm n (fun k => f (k + 1)) + f (n + 1))
    rw [ih]; omega
/-- the sum counted from the other end -/
theorem sm_rev (n : Nat) (f : Nat → Int) : sm n f = sm n fun k => f (n - 1 - k) := by
  induction n generalizing f with
  | zero => rfl
  | succ n ih =>
    have h1 : sm (n + 1) f = f 0 + sm n (fun k => f (k + 1)) := by
      clear ih
      induction n with
      | zero => show (0 : Int) + f 0 = f 0 + 0; omega
      | succ n ih =>
        show sm (n + 1) f + f (n + 1) = f 0 + (sm n (fun k => f (k + 1)) + f (n + 1))
        rw [ih]; omega
    rw [h1, ih fun k => f (k + 1)]
    show f 0 + sm n (fun k => f (n - 1 - k + 1)) = sm n (fun k => f (n + 1 - 1 - k)) + f (n + 1 - 1 - n)
    rw [show n + 1 - 1 - n = 0 by omega, sm_congr (g := fun k => f (n + 1 - 1 - k)) fun k hk => by rw [show n - 1 - k + 1 = n + 1 - 1 - k by omega]]
    omega
theorem ut_has (q : Int) (n : Nat) (A : Fm) (h : Ut n A) : ∃ B : Fm, RI q n A B ∧ Ut n B := by
  refine ⟨fun i j => if i ≤ j then bk A j (j - i) else 0, fun i j hi hj => .of_eq ?_, fun i j hi hj => ⟨fun l => if_neg (by omega), fun l => ?_⟩⟩
  · show sm n (fun k => A i k * if k ≤ j then bk A j (j - k) else 0) = if i = j then 1 else 0
    by_cases hij : i ≤ j
    · -- terms k from i to j
      have e1 : sm n (fun k => A i k * if k ≤ j then bk A j (j - k) else 0) = sm (j + 1) (fun k => A i k * bk A j (j - k)) := by
        have : ∀ m, j + 1 ≤ m → sm m (fun k => A i k * if k ≤ j then bk A j (j - k) else 0) = sm (j + 1) (fun k => A i k * bk A j (j - k)) := by
          intro m hm
          induction m with
          | zero => omega
          | succ m ih =>
            by_cases e : j = m
            · subst e
              exact sm_congr fun k hk => by rw [if_pos (by omega)]
            · show sm m _ + A i m * (if m ≤ j then bk A j (j - m) else 0) = _
              rw [if_neg (by omega), ih (by omega)]; omega
        exact this n (by omega)
      rw [e1, sm_split (i := i) (by omega) fun k hk => by rw [((h i k hi (by omega)).1 hk)]; omega]
      by_cases e : i = j
      · subst e
        rw [show i + 1 - i = 1 by omega, if_pos rfl]
        show (0 : Int) + A i (i + 0) * bk A i (i - (i + 0)) = 1
        rw [Nat.add_zero, (h i i hi hi).2 rfl, Nat.sub_self, bk_zero]
        rfl
      · obtain ⟨d, rfl⟩ : ∃ d, j = i + (d + 1) := ⟨j - i - 1, by omega⟩
        rw [if_neg (by omega), show i + (d + 1) + 1 - i = (d + 1) + 1 by omega, sm_rev]
        show sm (d + 1) (fun k => A i (i + (d + 1 + 1 - 1 - k)) * bk A (i + (d + 1)) (i + (d + 1) - (i + (d + 1 + 1 - 1 - k)))) + A i (i + (d + 1 + 1 - 1 - (d + 1))) * bk A (i + (d + 1)) (i + (d + 1) - (i + (d + 1 + 1 - 1 - (d + 1)))) = 0
        rw [show i + (d + 1 + 1 - 1 - (d + 1)) = i by omega, show i + (d + 1) - i = d + 1 by omega, (h i i hi hi).2 rfl, bk_succ]
        rw [sm_congr (g := fun e => A (i + (d + 1) - (d + 1)) (i + (d + 1) - e) * bk A (i + (d + 1)) e) fun k hk => by
          rw [show i + (d + 1) - (i + (d + 1 + 1 - 1 - k)) = k by omega, show i + (d + 1 + 1 - 1 - k) = i + (d + 1) - k by omega, show i + (d + 1) - (d + 1) = i by omega]]
        omega
    · rw [if_neg (by omega)]
      refine sm_zero' fun k hk => ?_
      by_cases l : k ≤ j
      · rw [(h i k hi hk).1 (by omega)]; omega
      · rw [if_neg l]; omega
  · show (if i ≤ j then bk A j (j - i) else 0) = 1
    rw [if_pos (by omega), l, Nat.sub_self, bk_zero]
theorem ut_left {q : Int} {n : Nat} {A B : Fm} (hb : Ut n B) (h : RI q n A B) : RI q n B A := by
  obtain ⟨C, k, _⟩ := ut_has q n B hb
  exact h.left k
end Vx

namespace Vx
open PySem PySem.Spec PyProof.Rows L2
/-! data in the abstract heap: what keeps it -/
mutual
theorem dp_same {K : PySem.W.Frag} {H H' : Hp} (s : Same H H') : ∀ (d : PyData) (v : V), Dp K H v d → Dp K H' v d
  | .none, _, h => by cases h; exact .non
  | .bool b, _, h => by cases h; exact .bl b
  | .int i, _, h => by cases h; exact .int i
  | .str x, _, h => by cases h; exact .str x
  | .list ds, _, h => by cases h with | lst a b => exact .lst (s.seq a) (dpAll_same s ds _ b)
  | .tuple ds, _, h => by cases h with | tup a b => exact .tup (Same.seqT s a) (dpAll_same s ds _ b)
  | .dict kvs, _, h => by cases h
theorem dpAll_same {K : PySem.W.Frag} {H H' : Hp} (s : Same H H') : ∀ (ds : List PyData) (vs : List V), DpAll K H vs ds → DpAll K H' vs ds
  | [], _, h => by cases h; exact .nil
  | d :: ds, _, h => by cases h with | cons a b => exact .cons (dp_same s d _ a) (dpAll_same s ds _ b)
end
theorem DpAll.app {K : PySem.W.Frag} {H : Hp} : ∀ {vs ws : List V} {ds es : List PyData}, DpAll K H vs ds → DpAll K H ws es → DpAll K H (vs ++ ws) (ds ++ es)
  | _, _, _, _, .nil, h => h
  | _, _, _, _, .cons a b, h => .cons a (DpAll.app b h)
theorem DpAll.len {K : PySem.W.Frag} {H : Hp} : ∀ {vs : List V} {ds : List PyData}, DpAll K H vs ds → vs.length = ds.length
  | _, _, .nil => rfl
  | _, _, .cons _ b => congrArg (· + 1) (DpAll.len b)
theorem DpAll.get {K : PySem.W.Frag} {H : Hp} : ∀ {vs : List V} {ds : List PyData} {i : Nat} {d : PyData}, DpAll K H vs ds → ds[i]? = some d → ∃ v, vs[i]? = some v ∧ Dp K H v d
  | _, _, _, _, .nil, h => by simp at h
  | _, _, 0, _, .cons a b, h => by simp at h; subst h; exact ⟨_, rfl, a⟩
  | _, _, i + 1, d, .cons a b, h => by
    obtain ⟨v, e, k⟩ := DpAll.get (i := i) b (by simpa using h)
    exact ⟨v, by simpa using e, k⟩
theorem DpAll.of {K : PySem.W.Frag} {H : Hp} : ∀ {vs : List V} {ds : List PyData} {i : Nat} {v : V}, DpAll K H vs ds → vs[i]? = some v → ∃ d, ds[i]? = some d ∧ Dp K H v d
  | _, _, _, _, .nil, h => by simp at h
  | _, _, 0, _, .cons a b, h => by simp at h; subst h; exact ⟨_, rfl, a⟩
  | _, _, i + 1, d, .cons a b, h => by
    obtain ⟨v, e, k⟩ := DpAll.of (i := i) b (by simpa using h)
    exact ⟨v, by simpa using e, k⟩
theorem DpAll.set {K : PySem.W.Frag} {H : Hp} {v : V} {d : PyData} (k : Dp K H v d) : ∀ {vs : List V} {ds : List PyData} (i : Nat), DpAll K H vs ds → DpAll K H (vs.set i v) (ds.set i d)
  | _, _, _, .nil => .nil
  | _, _, 0, .cons _ b => .cons k b
  | _, _, i + 1, .cons a b => .cons a (DpAll.set k i b)
theorem dpAll_of {K : PySem.W.Frag} {H : Hp} : ∀ {vs : List V} {ds : List PyData}, vs.length = ds.length → (∀ (i : Nat) (d : PyData), ds[i]? = some d → ∃ v, vs[i]? = some v ∧ Dp K H v d) → DpAll K H vs ds
  | [], [], _, _ => .nil
  | v :: vs, d :: ds, h, k => by
    obtain ⟨v', e, k0⟩ := k 0 d rfl
    obtain rfl : v = v' := by simpa using e
    refine .cons k0 (dpAll_of (by simpa using h) fun i d' hd => ?_)
    obtain ⟨w, e, k1⟩ := k (i + 1) d' (by simpa using hd)
    exact ⟨w, by simpa using e, k1⟩
  | [], _ :: _, h, _ => by simp at h
  | _ :: _, [], h, _ => by simp at h
theorem dp_tuple {K : PySem.W.Frag} {H : Hp} {v : V} {ds : List PyData} (h : Dp K H v (.tuple ds)) : ∃ a xs, v = .ref a ∧ SqT K H a xs ∧ DpAll K H xs ds := by
  cases h with
  | tup a b => exact ⟨_, _, rfl, a, b⟩
theorem dp_int {K : PySem.W.Frag} {H : Hp} {v : V} {i : Int} (h : Dp K H v (.int i)) : v = .int i := by cases h; rfl
theorem dp_ints_eq {K : PySem.W.Frag} {H : Hp} : ∀ {ns : List Int} {vs : List V}, DpAll K H vs (ns.map PyData.int) → vs = ns.map V.int
  | [], _, h => by cases h; rfl
  | n :: ns, _, h => by
    cases h with
    | cons a b =>
      rw [dp_int a, dp_ints_eq b]
      rfl
/-! no list within: a change of a list does not touch it -/
mutual
def noL : PyData → Bool
  | .list _ => false
  | .dict _ => false
  | .tuple ds => noLs ds
  | _ => true
def noLs : List PyData → Bool
  | [] => true
  | d :: ds => noL d && noLs ds
end
/-- p holds something that may change -/
def Chg (H : Hp) (p : Addr) : Prop := (∃ xs, H p = some (.lst xs)) ∨ ∃ kvs, H p = some (.dK kvs)
theorem Chg.tup {K : PySem.W.Frag} {H H' : Hp} {p a : Addr} {xs : List V} (c : Chg H p) (b : But p H H') (h : SqT K H a xs) : SqT K H' a xs := by
  have ne : ∀ o, H a = some o → (∀ zs, o ≠ .lst zs) → (∀ zs, o ≠ .dK zs) → a ≠ p := fun o e n1 n2 q => by
    subst q
    rcases c with ⟨zs, c⟩ | ⟨zs, c⟩ <;> rw [e] at c
    · exact n1 zs (Option.some.inj c)
    · exact n2 zs (Option.some.inj c)
  rcases h with (h | ⟨o, h⟩) | h
  · exact .inl (.inl (b _ _ (ne _ h (fun _ => nofun) (fun _ => nofun)) h))
  · exact .inl (.inr ⟨o, b _ _ (ne _ h (fun _ => nofun) (fun _ => nofun)) h⟩)
  · exact .inr h
theorem Chg.frz {H H' : Hp} {p a : Addr} {o : Obj} {u : HO} (c : Chg H p) (b : But p H H') (h : H a = some (.frz o u)) : H' a = some (.frz o u) := by
  refine b _ _ (fun q => ?_) h
  subst q
  rcases c with ⟨zs, c⟩ | ⟨zs, c⟩ <;> (rw [h] at c; cases c)
mutual
theorem dp_but {K : PySem.W.Frag} {H H' : Hp} {p : Addr} (c : Chg H p) (s : But p H H') : ∀ (d : PyData) (v : V), noL d = true → Dp K H v d → Dp K H' v d
  | .none, _, _, h => by cases h; exact .non
  | .bool b, _, _, h => by cases h; exact .bl b
  | .int i, _, _, h => by cases h; exact .int i
  | .str x, _, _, h => by cases h; exact .str x
  | .list ds, _, n, h => by cases n
  | .tuple ds, _, n, h => by cases h with | tup a b => exact .tup (c.tup s a) (dpAll_but c s ds _ n b)
  | .dict kvs, _, _, h => by cases h
theorem dpAll_but {K : PySem.W.Frag} {H H' : Hp} {p : Addr} (c : Chg H p) (s : But p H H') : ∀ (ds : List PyData) (vs : List V), noLs ds = true → DpAll K H vs ds → DpAll K H' vs ds
  | [], _, _, h => by cases h; exact .nil
  | d :: ds, _, n, h => by
    cases h with
    | cons a b =>
      have n2 := (Bool.and_eq_true _ _).mp n
      exact .cons (dp_but c s d _ n2.1 a) (dpAll_but c s ds _ n2.2 b)
end
theorem Pen.chg {K : PySem.W.Frag} {H : Hp} {p : Addr} (h : Pen K H p) : Chg H p := by
  obtain ⟨c, ns, i, m, h1, _⟩ := h
  exact .inl ⟨_, h1⟩
/-! matrices -/
abbrev Mx := List (List Int)
def rowD (r : List Int) : PyData := .tuple (r.map PyData.int)
def mat (M : Mx) : PyData := .tuple (M.map rowD)
def ent (M : Mx) : Fm := fun i j => (M.getD i []).getD j 0
structure Sq (n : Nat) (M : Mx) : Prop where
  h : M.length = n
  w : ∀ r ∈ M, r.length = n
def Rs (q : Int) (n : Nat) (M : Mx) : Prop := ∀ i j, i < n → j < n → 0 ≤ ent M i j ∧ ent M i j < q
theorem noL_row (r : List Int) : noL (rowD r) = true := by
  show noLs (r.map PyData.int) = true
  induction r with
  | nil => rfl
  | cons a r ih => exact ih
theorem noL_mat (M : Mx) : noL (mat M) = true := by
  show noLs (M.map rowD) = true
  induction M with
  | nil => rfl
  | cons a r ih =>
    show (noL (rowD a) && noLs (r.map rowD)) = true
    rw [noL_row, ih]
    rfl
theorem canLay_mat (M : Mx) : PyData.canLayAll0 (M.map rowD) = true := by
  induction M with
  | nil => rfl
  | cons a r ih =>
    show (PyData.canLayAll0 (a.map PyData.int) && PyData.canLayAll0 (r.map rowD)) = true
    rw [lay_ints, ih]
    rfl
theorem depth_mat (M : Mx) : PyData.depthAll (M.map rowD) ≤ 1 := by
  induction M with
  | nil => exact Nat.zero_le _
  | cons a r ih =>
    show max (PyData.depthAll (a.map PyData.int) + 1) (PyData.depthAll (r.map rowD)) ≤ 1
    rw [depth_ints]
    omega
theorem shaped_mat (M : Mx) : SeqAt.shaped (mat M) = true := by
  show (PyData.canLayAll0 (M.map rowD) && decide (PyData.depthAll (M.map rowD) + 1 ≤ 64)) = true
  rw [canLay_mat, decide_eq_true (by have := depth_mat M; omega)]
  rfl
theorem shaped_row (r : List Int) : SeqAt.shaped (rowD r) = true := by
  show (PyData.canLayAll0 (r.map PyData.int) && decide (PyData.depthAll (r.map PyData.int) + 1 ≤ 64)) = true
  rw [lay_ints, depth_ints]
  rfl
theorem eqv_same {d : PyData} (h : SeqAt.shaped d = true) : PyData.eqv d d = true := SeqAt.eqv_refl d (SeqAt.canLay_of_shaped h)
theorem mx_ext {n : Nat} {M N : Mx} (a : Sq n M) (b : Sq n N) (h : ∀ i j, i < n → j < n → ent M i j = ent N i j) : M = N := by
  refine List.ext_getElem (a.h.trans b.h.symm) fun i h1 h2 => ?_
  have r1 := a.w _ (List.getElem_mem h1)
  have r2 := b.w _ (List.getElem_mem h2)
  refine List.ext_getElem (r1.trans r2.symm) fun j h3 h4 => ?_
  have e := h i j (by rw [← a.h]; exact h1) (by rw [← r1]; exact h3)
  unfold ent at e
  simpa only [List.getD_eq_getElem?_getD, List.getElem?_eq_getElem h1, List.getElem?_eq_getElem h2, Option.getD_some, List.getElem?_eq_getElem h3, List.getElem?_eq_getElem h4] using e
/-- a matrix's row, an entry, as the heap has them -/
theorem mat_row {K : PySem.W.Frag} {H : Hp} {v : V} {M : Mx} (h : Dp K H v (mat M)) : ∃ (a : Addr) (xs : List V), v = .ref a ∧ SqT K H a xs ∧ xs.length = M.length ∧ ∀ (i : Nat) (r : List Int), M[i]? = some r → ∃ t : Addr, xs[i]? = some (.ref t) ∧ SqT K H t (r.map V.int) := by
  obtain ⟨a, xs, e, hs, hd⟩ := dp_tuple h
  refine ⟨a, xs, e, hs, by rw [DpAll.len hd, List.length_map], fun i r hr => ?_⟩
  obtain ⟨v, e1, k⟩ := DpAll.get (i := i) (d := rowD r) hd (by rw [List.getElem?_map, hr]; rfl)
  obtain ⟨t, ys, rfl, k1, k2⟩ := dp_tuple (ds := r.map PyData.int) k
  rw [dp_ints_eq k2] at k1
  exact ⟨t, e1, k1⟩
theorem dp_row {K : PySem.W.Frag} {H : Hp} {t : Addr} {r : List Int} (h : SqT K H t (r.map V.int)) : Dp K H (.ref t) (rowD r) := .tup h (dp_ints K H r)
theorem row_get {n : Nat} {M : Mx} (h : Sq n M) {i : Nat} (hi : i < n) : ∃ r, M[i]? = some r ∧ r.length = n ∧ ∀ j, j < n → r[j]? = some (ent M i j) := by
  have h1 : i < M.length := by rw [h.h]; exact hi
  refine ⟨M[i], List.getElem?_eq_getElem h1, h.w _ (List.getElem_mem h1), fun j hj => ?_⟩
  have h2 : j < (M[i]).length := by rw [h.w _ (List.getElem_mem h1)]; exact hj
  unfold ent
  rw [List.getD_eq_getElem?_getD, List.getD_eq_getElem?_getD, List.getElem?_eq_getElem h1, Option.getD_some, List.getElem?_eq_getElem h2]
  rfl
theorem at_of {xs : List Int} {j : Nat} {x : Int} (h : xs[j]? = some x) : atI (xs.map V.int) (j : Int) = some (.int x) := atI_nat (by rw [List.getElem?_map, h]; rfl)
/-! what is shown -/
section
variable {X : Cx}
def rRepr (K : PySem.W.Frag) : List V → Hp → VK → Prop := fun xs H Q => ∃ a d, xs = [.ref a] ∧ Dp K H (.ref a) d ∧ d.hasDict = false ∧ d.showable = true ∧ d.depth ≤ 32 ∧ d.shown.length ≤ sizeLine ∧ Q (.str d.shown) H
theorem call_reprD (hg : X.A.guards = some []) (hu : X.A.units + 64 < cLine) : CallR X (.builtin "repr") (rRepr X.K) := by
  intro pins s σ H xs us Q I r h
  obtain ⟨a, d, rfl, hd, n1, n2, n3, n4, q⟩ := h
  obtain ⟨u, rfl, ru⟩ := vals1 r
  obtain rfl : u = Value.ref a := ru
  obtain ⟨as, rd⟩ := Dp.reads I d _ _ hd rfl
  exact repr_of_reads' rd n2 (PyData.noDict_hsm n1) hg (by omega) (fun _ _ e => e) (fun h' u tk hk => ⟨.str d.shown, H, I.kept hk, ⟨u, rfl⟩, q⟩) n4
end
end Vx

namespace Vx
open PySem PySem.Spec PyProof.Rows L2
/-! a matrix of small residues can be shown -/
theorem small_int {x : Int} (h0 : 0 ≤ x) (h : x < 1000000) : PyData.weight (.int x) ≤ 21 ∧ PyData.showable (.int x) = true ∧ PyData.intsShort 13 (.int x) = true := by
  have l : x.natAbs.log2 < 20 := by
    by_cases e : x.natAbs = 0
    · rw [e]; decide
    · exact (Nat.log2_lt e).mpr (by omega)
  refine ⟨?_, decide_eq_true (Nat.lt_of_lt_of_le l (by decide)), ?_⟩
  · show (if (x == 0) = true then 0 else x.natAbs.log2 + 1) ≤ 21
    split <;> omega
  · exact decide_eq_true (PyData.shown_int_le (Nat.lt_of_lt_of_le (show x.natAbs < 1000000 by omega) (by decide)))
theorem small_row {r : List Int} (h : ∀ x ∈ r, 0 ≤ x ∧ x < 1000000) : PyData.weightAll (r.map PyData.int) ≤ 22 * r.length ∧ PyData.showableAll (r.map PyData.int) = true ∧ PyData.intsShortAll 13 (r.map PyData.int) = true := by
  induction r with
  | nil => exact ⟨Nat.le_refl _, rfl, rfl⟩
  | cons a r ih =>
    obtain ⟨h1, h2, h3⟩ := ih fun x hx => h x (List.mem_cons_of_mem _ hx)
    obtain ⟨k1, k2, k3⟩ := small_int (h a List.mem_cons_self).1 (h a List.mem_cons_self).2
    refine ⟨?_, (Bool.and_eq_true _ _).mpr ⟨k2, h2⟩, (Bool.and_eq_true _ _).mpr ⟨k3, h3⟩⟩
    simp only [List.map_cons, PyData.weightAll, List.length_cons]
    omega
theorem small_rows {M : Mx} {n : Nat} (hw : ∀ r ∈ M, r.length = n) (h : ∀ r ∈ M, ∀ x ∈ r, 0 ≤ x ∧ x < 1000000) :
    PyData.weightAll (M.map rowD) ≤ (22 * n + 1) * M.length ∧ PyData.showableAll (M.map rowD) = true ∧ PyData.intsShortAll 13 (M.map rowD) = true := by
  induction M with
  | nil => exact ⟨Nat.zero_le _, rfl, rfl⟩
  | cons a r ih =>
    obtain ⟨h1, h2, h3⟩ := ih (fun x hx => hw x (List.mem_cons_of_mem _ hx)) fun x hx => h x (List.mem_cons_of_mem _ hx)
    obtain ⟨k1, k2, k3⟩ := small_row (h a List.mem_cons_self)
    have e := hw a List.mem_cons_self
    refine ⟨?_, (Bool.and_eq_true _ _).mpr ⟨k2, h2⟩, (Bool.and_eq_true _ _).mpr ⟨k3, h3⟩⟩
    rw [e] at k1
    simp only [List.map_cons, PyData.weightAll, List.length_cons, rowD, PyData.weight]
    rw [Nat.mul_add]
    omega
theorem rs_small {q : Int} {n : Nat} {M : Mx} (hs : Sq n M) (h : Rs q n M) (hq : q ≤ 1000) : ∀ r ∈ M, ∀ x ∈ r, 0 ≤ x ∧ x < 1000000 := by
  intro r hr x hx
  obtain ⟨i, hi, rfl⟩ := List.mem_iff_getElem.mp hr
  obtain ⟨j, hj, rfl⟩ := List.mem_iff_getElem.mp hx
  have h1 : i < n := by rw [← hs.h]; exact hi
  have h2 : j < n := by rw [← hs.w _ (List.getElem_mem hi)]; exact hj
  have e : ent M i j = M[i][j] := by
    unfold ent
    simp only [List.getD_eq_getElem?_getD, List.getElem?_eq_getElem hi, Option.getD_some, List.getElem?_eq_getElem hj]
  have := h i j h1 h2
  rw [e] at this
  omega
/-- what repr asks of a matrix -/
theorem mat_shows {q : Int} {n : Nat} {M : Mx} (hs : Sq n M) (h : Rs q n M) (hq : q ≤ 1000) (hn : n ≤ 30) : (mat M).hasDict = false ∧ (mat M).showable = true ∧ (mat M).depth ≤ 32 ∧ (mat M).shown.length ≤ sizeLine := by
  obtain ⟨k1, k2, k3⟩ := small_rows hs.w (rs_small hs h hq)
  have d := depth_mat M
  have lay : PyData.layable0 (mat M) = true := by
    show (PyData.canLayAll0 (M.map rowD) && decide (PyData.depthAll (M.map rowD) + 1 ≤ 64) && decide (PyData.weightAll (M.map rowD) ≤ 2 ^ 20)) = true
    rw [hs.h] at k1
    have : (22 * n + 1) * n ≤ (22 * 30 + 1) * 30 := Nat.mul_le_mul (by omega) hn
    rw [canLay_mat, decide_eq_true (by omega), decide_eq_true (Nat.le_trans k1 (Nat.le_trans this (by decide)))]
    rfl
  refine ⟨PyData.hasDict_of_layable lay, k2, ?_, PyData.shown_fits_of_layable0 (B := 13) (by decide) (by decide) lay k3⟩
  show PyData.depthAll (M.map rowD) + 1 ≤ 32
  omega
end Vx

namespace Vx
open PySem PySem.Spec PyProof.Rows L2
/-! comprehensions that make data -/
theorem same_mut {H H' : Hp} {p : Addr} {o : HO} (e : Same H H') (h : H p = none) : Same H (upd H' p o) := fun a u ha => by
  rw [upd_ne (ne_of_none ha h)]
  exact e a u ha
/-- from H' to H4: data without lists is kept, and the list at D -/
structure Stay (K : PySem.W.Frag) (D : Addr) (H' H4 : Hp) : Prop where
  d : H4 D = H' D
  k : ∀ vs ds, noLs ds = true → DpAll K H' vs ds → DpAll K H4 vs ds
theorem Stay.same {K : PySem.W.Frag} {D : Addr} {H' H4 : Hp} {o : HO} (s : Same H' H4) (h : H' D = some o) : Stay K D H' H4 := ⟨(s _ _ h).trans h.symm, fun vs ds _ x => dpAll_same s ds vs x⟩
theorem Stay.but {K : PySem.W.Frag} {p D : Addr} {H' H4 : Hp} {o : HO} (s : But p H' H4) (c : Chg H' p) (h : H' D = some o) (n : D ≠ p) : Stay K D H' H4 := ⟨(s _ _ n h).trans h.symm, fun vs ds e x => dpAll_but c s ds vs e x⟩
/-- i items are made: their data -/
def Made (K : PySem.W.Frag) (D : Addr) (f : Nat → PyData → Prop) (G : Hp → Prop) (i : Nat) (H : Hp) : Prop :=
  ∃ acc ds, H D = some (.lst acc) ∧ DpAll K H acc ds ∧ noLs ds = true ∧ ds.length = i ∧ (∀ k d, ds[k]? = some d → f k d) ∧ G H
theorem noLs_app : ∀ {a b : List PyData}, noLs a = true → noLs b = true → noLs (a ++ b) = true
  | [], _, _, h => h
  | x :: a, b, h, k => by
    have h2 := (Bool.and_eq_true _ _).mp h
    exact (Bool.and_eq_true _ _).mpr ⟨h2.1, noLs_app h2.2 k⟩
theorem Made.start {K : PySem.W.Frag} {D : Addr} {f : Nat → PyData → Prop} {G : Hp → Prop} {H : Hp} (g : G (upd H D (.lst []))) : Made K D f G 0 (upd H D (.lst [])) :=
  ⟨[], [], upd_same, .nil, rfl, rfl, fun k d h => by simp at h, g⟩
theorem Made.next {K : PySem.W.Frag} {D : Addr} {f : Nat → PyData → Prop} {G : Hp → Prop} {i : Nat} {H' H4 : Hp} {y : V} {d : PyData} (m : Made K D f G i H') (s : Stay K D H' H4) (n : noL d = true) (hd : Dp K H4 y d) (hf : f i d) (hi : i ≤ 100000)
    (g : ∀ acc, G (upd H4 D (.lst acc))) : ∃ acc, H4 D = some (.lst acc) ∧ acc.length < sizeLine ∧ Made K D f G (i + 1) (upd H4 D (.lst (acc ++ [y]))) := by
  obtain ⟨acc, ds, e, k, no, len, hk, _⟩ := m
  have e4 : H4 D = some (.lst acc) := s.d.trans e
  have c4 : Chg H4 D := .inl ⟨acc, e4⟩
  have k4 := s.k _ _ no k
  have n1 : noLs [d] = true := by show (noL d && true) = true; rw [n]; rfl
  have n2 := noLs_app no n1
  refine ⟨acc, e4, ?_, _, ds ++ [d], upd_same, dpAll_but c4 .upd _ _ n2 (DpAll.app k4 (.cons hd .nil)), n2, by rw [List.length_append, len]; rfl, fun q d' h => ?_, g _⟩
  · rw [DpAll.len k4, len]
    exact Nat.lt_of_le_of_lt hi (by decide)
  · by_cases l : q < ds.length
    · rw [List.getElem?_append_left l] at h
      exact hk q d' h
    · rw [List.getElem?_append_right (by omega)] at h
      have : q = ds.length := by
        by_cases z : q - ds.length = 0
        · omega
        · rw [List.getElem?_eq_none (by simp; omega)] at h
          cases h
      subst this
      rw [Nat.sub_self] at h
      obtain rfl : d = d' := by simpa using h
      rw [len]
      exact hf
/-- the turns of a comprehension over I whose target is the name at j, without a test -/
def LcOf (I : It) (j : Nat) (te : TE) (vs : List Nat) (σ : L2.St) (H1 : Hp) (D : Addr) (Qd : Hp → Prop) : Prop :=
  ∃ U : Nat → Nat → Hp → Prop, (∃ k, U 0 k (upd H1 D (.lst []))) ∧ ∀ n k h, U n k h → (I.stop n h ∧ Qd h) ∨ (I.go n h ∧ ∃ Z : Hp → Prop, (∀ h', Z h' → ∃ k', k' < k ∧ U (n + 1) k' h') ∧
    ∀ z h', I.yld n h z h' → gName j z (wipe σ vs) h' fun ρ h2 => wipe ρ vs = wipe σ vs ∧ tYes ρ h2 fun c h3 => if c = true then te ρ h3 fun y h4 => ∃ made, h4 D = some (.lst made) ∧ made.length < sizeLine ∧ Z (upd h4 D (.lst (made ++ [y]))) else Z h3)
theorem lc_rangeD {K : PySem.W.Frag} {lo : Int} {n j : Nat} {te : TE} {vs : List Nat} {σ : L2.St} {H1 : Hp} {D : Addr} {Qd : Hp → Prop} (G : Hp → Prop) (f : Nat → PyData → Prop) (hn : n ≤ 100000) (h0 : G (upd H1 D (.lst [])))
    (hw : ∀ v, wipe ((wipe σ vs).set j (some v)) vs = wipe σ vs)
    (hs : ∀ i H', i < n → Made K D f G i H' → ∀ Q : VK, (∀ y d H4, Stay K D H' H4 → noL d = true → Dp K H4 y d → f i d → (∀ acc, G (upd H4 D (.lst acc))) → Q y H4) → te ((wipe σ vs).set j (some (.int (lo + i)))) H' Q)
    (hd : ∀ H, Made K D f G n H → Qd H) :
    LcOf (Itr lo n) j te vs σ H1 D Qd := by
  refine lc_range (Made K D f G) (.start h0) (fun i H' hi m => ?_) hd
  refine ⟨hw _, ?_⟩
  show te _ H' _
  exact hs i H' hi m _ fun y d H4 s no hd hf g => m.next s no hd hf (by omega) g
/-- what a comprehension over anything says of a turn: for lists and tuples -/
theorem lc_tupD {K : PySem.W.Frag} {a : Addr} {xs : List V} {j : Nat} {te : TE} {vs : List Nat} {σ : L2.St} {H1 : Hp} {D : Addr} {Qd : Hp → Prop} (G : Hp → Prop) (f : Nat → PyData → Prop) (hn : xs.length ≤ 100000) (h0 : G (upd H1 D (.lst [])))
    (hl : ∀ H', G H' → SqT K H' a xs) (hw : ∀ v, wipe ((wipe σ vs).set j (some v)) vs = wipe σ vs)
    (hs : ∀ i x H', xs[i]? = some x → Made K D f G i H' → ∀ Q : VK, (∀ y d H4, Stay K D H' H4 → noL d = true → Dp K H4 y d → f i d → (∀ acc, G (upd H4 D (.lst acc))) → Q y H4) → te ((wipe σ vs).set j (some x)) H' Q)
    (hd : ∀ H, Made K D f G xs.length H → Qd H) :
    LcOf (Itt K a) j te vs σ H1 D Qd := by
  refine lc_tup (K := K) (a := a) (xs := xs) (Made K D f G) (.start h0) (fun i H' _ m => hl H' m.choose_spec.choose_spec.2.2.2.2.2) (fun i x H' hi m => ?_) hd
  refine ⟨hw _, ?_⟩
  show te _ H' _
  have l := (List.getElem?_eq_some_iff.mp hi).1
  exact hs i x H' hi m _ fun y d H4 s no hd hf g => m.next s no hd hf (by omega) g
theorem lc_listD {K : PySem.W.Frag} {a : Addr} {xs : List V} {j : Nat} {te : TE} {vs : List Nat} {σ : L2.St} {H1 : Hp} {D : Addr} {Qd : Hp → Prop} (G : Hp → Prop) (f : Nat → PyData → Prop) (hn : xs.length ≤ 100000) (h0 : G (upd H1 D (.lst [])))
    (hl : ∀ H', G H' → SqL K H' a xs) (hw : ∀ v, wipe ((wipe σ vs).set j (some v)) vs = wipe σ vs)
    (hs : ∀ i x H', xs[i]? = some x → Made K D f G i H' → ∀ Q : VK, (∀ y d H4, Stay K D H' H4 → noL d = true → Dp K H4 y d → f i d → (∀ acc, G (upd H4 D (.lst acc))) → Q y H4) → te ((wipe σ vs).set j (some x)) H' Q)
    (hd : ∀ H, Made K D f G xs.length H → Qd H) :
    LcOf (Itl K a) j te vs σ H1 D Qd := by
  refine lc_list (K := K) (a := a) (xs := xs) (Made K D f G) (.start h0) (fun i H' _ m => hl H' m.choose_spec.choose_spec.2.2.2.2.2) (fun i x H' hi m => ?_) hd
  refine ⟨hw _, ?_⟩
  show te _ H' _
  have l := (List.getElem?_eq_some_iff.mp hi).1
  exact hs i x H' hi m _ fun y d H4 s no hd hf g => m.next s no hd hf (by omega) g
/-- the data of a made list as a function of the place -/
theorem made_eq {ds : List PyData} {n : Nat} {g : Nat → PyData} (hl : ds.length = n) (h : ∀ k d, ds[k]? = some d → d = g k) : ds = (List.range n).map g := by
  refine List.ext_getElem (by rw [hl, List.length_map, List.length_range]) fun i h1 h2 => ?_
  rw [h i _ (List.getElem?_eq_getElem h1), List.getElem_map, List.getElem_range]
/-- some new data -/
def someD (K : PySem.W.Frag) (d : PyData) (H : Hp) (Q : VK) : Prop := ∀ (a : Addr) (H' : Hp), Same H H' → Dp K H' (.ref a) d → Q (.ref a) H'
/-- o[i] of a list, at a place counted from the left, by values -/
def rGetN (K : PySem.W.Frag) : V → V → Hp → VK → Prop := fun x y H Q => ∃ (p : Addr) (xs : List V) (j : Nat) (v : V), x = .ref p ∧ y = .int (j : Int) ∧ SqL K H p xs ∧ xs[j]? = some v ∧ Q v H
theorem get_list {X : Cx} : PGet X (rGetN X.K) := by
  intro pins s σ H o i ov iv Q I ro ri h
  obtain ⟨p, xs, j, v, rfl, rfl, hq, he, q⟩ := h
  cases ro
  obtain ⟨t, rfl⟩ := ri
  obtain ⟨its, r, pl, hz⟩ := I.list hq
  obtain ⟨w, ew, rw'⟩ := r.get he
  have hl := (List.getElem?_eq_some_iff.mp he).1
  have hn := line63
  exact wpAny_getItem_list pl.isList (by omega) (by omega) (by simpa using ew) ⟨v, H, I, rw', q⟩
end Vx

namespace Vx
open PySem PySem.Spec PyProof.Rows L2
/-! rows and matrices that are written by rules -/
def fnRow (n : Nat) (f : Nat → Int) : List Int := (List.range n).map f
def fnMx (n : Nat) (f : Fm) : Mx := (List.range n).map fun i => fnRow n (f i)
theorem fnRow_get {n j : Nat} {f : Nat → Int} (h : j < n) : (fnRow n f)[j]? = some (f j) := by
  unfold fnRow
  rw [List.getElem?_map, List.getElem?_range h]
  rfl
theorem fnRow_len (n : Nat) (f : Nat → Int) : (fnRow n f).length = n := by unfold fnRow; rw [List.length_map, List.length_range]
theorem fnMx_sq (n : Nat) (f : Fm) : Sq n (fnMx n f) := by
  constructor
  · unfold fnMx
    rw [List.length_map, List.length_range]
  · intro r hr
    unfold fnMx at hr
    obtain ⟨i, _, rfl⟩ := List.mem_map.mp hr
    exact fnRow_len _ _
theorem fnMx_ent {n : Nat} (f : Fm) {i j : Nat} (hi : i < n) (hj : j < n) : ent (fnMx n f) i j = f i j := by
  unfold ent fnMx
  rw [List.getD_eq_getElem?_getD, List.getD_eq_getElem?_getD, List.getElem?_map, List.getElem?_range hi]
  show (fnRow n (f i))[j]?.getD 0 = f i j
  rw [fnRow_get hj]
  rfl
/-- a matrix from its rows -/
theorem mx_rows {n : Nat} {M : Mx} (h : M.length = n) (f : Fm) (k : ∀ i r, M[i]? = some r → r = fnRow n (f i)) : M = fnMx n f := by
  show M = (List.range n).map fun i => fnRow n (f i)
  refine List.ext_getElem (by rw [h, List.length_map, List.length_range]) fun i h1 h2 => ?_
  rw [k i _ (List.getElem?_eq_getElem h1), List.getElem_map, List.getElem_range]
/-- a row of a unitriangular matrix of residues -/
def UtRow (q : Int) (n i : Nat) (r : List Int) : Prop := r.length = n ∧ (∀ j, j < i → r[j]? = some 0) ∧ r[i]? = some 1 ∧ ∀ (j : Nat) (x : Int), r[j]? = some x → 0 ≤ x ∧ x < q
structure UT (q : Int) (n : Nat) (M : Mx) : Prop where
  s : Sq n M
  r : Rs q n M
  u : Ut n (ent M)
theorem ut_rows {q : Int} {n : Nat} {M : Mx} (h : M.length = n) (k : ∀ i r, M[i]? = some r → UtRow q n i r) : UT q n M := by
  have row : ∀ i, i < n → ∃ r, M[i]? = some r ∧ UtRow q n i r := fun i hi => ⟨M[i], List.getElem?_eq_getElem (by omega), k i _ (List.getElem?_eq_getElem (by omega))⟩
  have en : ∀ i j, i < n → j < n → ∃ x, ent M i j = x ∧ ∃ r, UtRow q n i r ∧ r[j]? = some x := fun i j hi hj => by
    obtain ⟨r, e, u⟩ := row i hi
    have hl := u.1
    refine ⟨r[j], ?_, r, u, List.getElem?_eq_getElem (by omega)⟩
    unfold ent
    rw [List.getD_eq_getElem?_getD, List.getD_eq_getElem?_getD, e, Option.getD_some, List.getElem?_eq_getElem (by omega)]
    rfl
  refine ⟨⟨h, fun r hr => ?_⟩, fun i j hi hj => ?_, fun i j hi hj => ⟨fun l => ?_, fun l => ?_⟩⟩
  · obtain ⟨i, hi, rfl⟩ := List.mem_iff_getElem.mp hr
    exact (k i _ (List.getElem?_eq_getElem hi)).1
  · obtain ⟨x, e, r, u, ex⟩ := en i j hi hj
    rw [e]
    exact u.2.2.2 j x ex
  · obtain ⟨x, e, r, u, ex⟩ := en i j hi hj
    rw [u.2.1 j l] at ex
    rw [e]
    exact (Option.some.inj ex).symm
  · obtain ⟨x, e, r, u, ex⟩ := en i j hi hj
    rw [l, u.2.2.1] at ex
    rw [e]
    exact (Option.some.inj ex).symm
/-- zeros, a one, residues -/
theorem ut_row_of {q : Int} {n i : Nat} {rest : List Int} (hq : 1 < q) (hi : i < n) (hl : rest.length = n - (i + 1)) (hr : ∀ x ∈ rest, 0 ≤ x ∧ x < q) : UtRow q n i (List.replicate i 0 ++ [1] ++ rest) := by
  have l1 : (List.replicate i (0 : Int)).length = i := List.length_replicate
  have l2 : (List.replicate i (0 : Int) ++ [1]).length = i + 1 := by rw [List.length_append, l1]; rfl
  refine ⟨by rw [List.length_append, l2, hl]; omega, fun j hj => ?_, ?_, fun j x h => ?_⟩
  · rw [List.getElem?_append_left (by omega), List.getElem?_append_left (by omega), List.getElem?_replicate, if_pos hj]
  · rw [List.getElem?_append_left (by omega), List.getElem?_append_right (by omega), l1, Nat.sub_self]
    try rfl
  · have m := List.mem_of_getElem? h
    rcases List.mem_append.mp m with m | m
    · rcases List.mem_append.mp m with m | m
      · rw [List.eq_of_mem_replicate m]; omega
      · rw [List.mem_singleton.mp m]; omega
    · exact hr x m
/-- the inverse, as its properties say it -/
structure InvOf (q : Int) (n : Nat) (A : Fm) (B : Mx) : Prop where
  u : UT q n B
  r : RI q n A (ent B)
theorem InvOf.left {q : Int} {n : Nat} {A : Fm} {B : Mx} (h : InvOf q n A B) : RI q n (ent B) A := ut_left h.u.u h.r
theorem InvOf.unique {q : Int} {n : Nat} {A : Fm} {B C : Mx} (h : InvOf q n A B) (k : InvOf q n A C) : B = C :=
  mx_ext h.u.s k.u.s fun i j hi hj => ((h.r.unique k.r h.left) i j hi hj).eq (h.u.r i j hi hj).1 (h.u.r i j hi hj).2 (k.u.r i j hi hj).1 (k.u.r i j hi hj).2
/-- the product's matrix -/
def prod (q : Int) (n : Nat) (A B : Fm) : Mx := fnMx n fun i j => mm n A B i j % q
theorem prod_one {q : Int} {n : Nat} {A B : Fm} (hq : 1 < q) (h : RI q n A B) : prod q n A B = fnMx n dl := by
  refine mx_ext (fnMx_sq _ _) (fnMx_sq _ _) fun i j hi hj => ?_
  unfold prod
  rw [fnMx_ent _ hi hj, fnMx_ent _ hi hj]
  have e : mm n A B i j % q = dl i j % q := h i j hi hj
  rw [e]
  show (if i = j then (1 : Int) else 0) % q = if i = j then 1 else 0
  split
  · exact Int.emod_eq_of_lt (by omega) hq
  · exact Int.emod_eq_of_lt (by omega) (by omega)
/-- rows that stand in a list make a matrix's data -/
theorem rows_data {K : PySem.W.Frag} {H : Hp} {n : Nat} {xs : List V} {B : Fm} (hl : xs.length = n) (h : ∀ k, k < n → ∃ t : Addr, xs[k]? = some (.ref t) ∧ SqT K H t ((fnRow n (B k)).map V.int)) : DpAll K H xs ((fnMx n B).map rowD) := by
  refine dpAll_of (by rw [hl, List.length_map, (fnMx_sq n B).h]) fun i d hd => ?_
  have hi : i < n := by
    have := (List.getElem?_eq_some_iff.mp hd).1
    rwa [List.length_map, (fnMx_sq n B).h] at this
  obtain ⟨t, e, k⟩ := h i hi
  refine ⟨.ref t, e, ?_⟩
  rw [List.getElem?_map, show (fnMx n B)[i]? = some (fnRow n (B i)) by unfold fnMx; rw [List.getElem?_map, List.getElem?_range hi]; rfl] at hd
  obtain rfl : rowD (fnRow n (B i)) = d := Option.some.inj hd
  exact dp_row k
theorem fnMx_ents {n : Nat} {M : Mx} (h : Sq n M) : M = fnMx n (ent M) := mx_ext h (fnMx_sq _ _) fun i j hi hj => (fnMx_ent _ hi hj).symm
theorem row_ents {n : Nat} {M : Mx} (h : Sq n M) {i : Nat} (hi : i < n) : M[i]? = some (fnRow n (ent M i)) := by
  have e := fnMx_ents h
  have : (fnMx n (ent M))[i]? = some (fnRow n (ent M i)) := by unfold fnMx; rw [List.getElem?_map, List.getElem?_range hi]; rfl
  rw [← e] at this
  exact this
end Vx

namespace Vx
open PySem PySem.Spec PyProof.Rows L2
/-! enumerate over a tuple -/
theorem meets_enum1 {v : Value} {o : Obj} {H : Heap → Prop} (B : Begins v o H) :
    Meets (Builtin.«enumerate.__new__» ⟨[.type "enumerate", v], []⟩) (fun _ R s => H s.heap ∧
      R (.ok (.ret (.ref (s.heap.push o).objs.size))) { s with heap := (s.heap.push o).push { cls := .type "enumerate", data := .fields #[.none, .bool false, .ref s.heap.objs.size, rawInt 0, .none, .none] } }) := by
  refine .of_wp fun prog w A R s h => ?_
  obtain ⟨hp, g, d, tk, os⟩ := s
  obtain ⟨h1, h⟩ := h
  have isE := sub_enumerate
  have it : ∀ {A' : Around} {E : Value → Shared → Prop} {Q : Value → Shared → Prop}, Q (.ref hp.objs.size) ⟨hp.push o, g, d, tk, os⟩ → wpAny (model prog w) A' (pyIter v) Q E ⟨hp, g, d, tk, os⟩ := fun q => B.iter prog w _ _ ⟨hp, g, d, tk, os⟩ _ h1 q
  wp_walk using it
  refine wpAny_stack_any fun st => wpAny_pure ?_
  split
  · rename_i c _ _ _ _ _
    cases (c == Value.type "enumerate") <;> (wp_walk using it; exact ⟨_, rfl, h⟩)
  · wp_walk using it
    exact ⟨_, rfl, h⟩
theorem enum_of {prog : Program} {w : World} {A : Around} {E : Value → Shared → Prop} {s : Shared} {v : Value} {o : Obj} {H : Heap → Prop} {Q : Value → Shared → Prop} (B : Begins v o H) (h1 : H s.heap)
    (h : ∀ h', IsEnum h' (s.heap.objs.size + 1) s.heap.objs.size 0 .none → h'.get? s.heap.objs.size = some o → (∀ b u, s.heap.get? b = some u → h'.get? b = some u) → Q (.ref (s.heap.objs.size + 1)) { s with heap := h' }) :
    wpAny (model prog w) A (call (.type "enumerate") [v]) Q E s := by
  refine callType_new F.called_enumerate (by decide) (F.typeCall_enumerate_1 _) (F.newCall_enumerate_1 _) (fun obj => F.args_object_init_2 obj _) F.entry_enumerate_new (meets_enum1 B) ⟨h1, ?_⟩
  have z1 : (s.heap.push o).objs.size = s.heap.objs.size + 1 := Heap.size_push ..
  show _ ∧ _
  rw [z1]
  have en : IsEnum ((s.heap.push o).push { cls := .type "enumerate", data := .fields #[.none, .bool false, .ref s.heap.objs.size, rawInt 0, .none, .none] }) (s.heap.objs.size + 1) s.heap.objs.size 0 .none := by
    have := Heap.get?_push_size (s.heap.push o) (o := { cls := .type "enumerate", data := .fields #[.none, .bool false, .ref s.heap.objs.size, rawInt 0, .none, .none] }) rfl
    rwa [z1] at this
  exact ⟨⟨_, en, rfl⟩, h _ en (Heap.get?_push_of_some _ (Heap.get?_push_size _ B.free)) fun b u x => Heap.get?_push_of_some _ (Heap.get?_push_of_some _ x)⟩
/-- the tuple at a, each item in a new pair with its place -/
def IteT (K : PySem.W.Frag) (a : Addr) : It :=
  ⟨fun i H => ∃ (xs : List V) (x : V), SqT K H a xs ∧ xs[i]? = some x, fun i H v H' => ∃ T x, v = .ref T ∧ H T = none ∧ H' = upd H T (.tup [.int (i : Nat), x]) ∧ ∀ xs, SqT K H a xs → xs[i]? = some x, fun i H => ∃ xs : List V, SqT K H a xs ∧ xs.length = i⟩
theorem turn_enumT {P : Program} {w : World} {K : PySem.W.Frag} {elts : List Expr} {kk : Nat} {tpos : Pos} (a e it : Addr) (na : a ≠ it) :
    Turn P w K (.Tuple elts kk tpos) (IteT K a) [e, it] e (fun i h => (∃ old, IsEnum h e it ((i : Nat) : Int) old) ∧ h.IsTupleIter it a i ∧ e ≠ it ∧ e ≠ a) where
  mem := List.mem_cons_self
  obj := fun i h st b hb => by
    obtain ⟨⟨old, he⟩, ⟨o, ho, _, hd⟩, _⟩ := st
    rcases List.mem_cons.mp hb with rfl | hb
    · exact ⟨_, he, fun v q => nomatch q⟩
    · obtain rfl := List.mem_singleton.mp hb
      exact ⟨o, ho, fun v q => by rw [hd] at q; cases q⟩
  keep := fun i h h' st k => by
    obtain ⟨⟨old, he⟩, hi, hne⟩ := st
    exact ⟨⟨old, k e List.mem_cons_self _ he⟩, hi.at fun o q => k it (by simp) o q, hne⟩
  item := by
    intro X hP hw hK hc i pins s σ H E I hf st hg
    subst hP hw hK
    obtain ⟨⟨old, he⟩, hit, hne, hna⟩ := st
    obtain ⟨xs, x, hq, hx⟩ := hg
    obtain ⟨its, rv, p, _⟩ := I.tuple hq
    obtain ⟨u, hu, ru⟩ := rv.get hx
    have hel : e < s.heap.objs.size := Heap.lt_size he
    have hil : it < s.heap.objs.size := by
      obtain ⟨_, q, _⟩ := hit
      exact Heap.lt_size q
    have D := Draws.tuple (prog := X.prog) (w := X.w) (A := X.A.in1) (by show X.A.handled = none; exact I.ok.hd hc) it a na its.toArray
    have hlt : i < its.toArray.size := by
      have := (List.getElem?_eq_some_iff.mp hu).1
      rwa [List.size_toArray]
    refine wpAny_pyNext_enum_itemD D he ⟨hit, p⟩ hlt hne (by simp; exact ⟨hne, hna⟩) ?_
    rintro x' h' tk hx' ho ⟨hit', _⟩ hT hsz hk
    obtain rfl : u = x' := by
      rw [show its.toArray[i]? = some u by simpa using hu] at hx'
      exact Option.some.inj hx'
    refine ⟨_, rfl, wpAny_letOwnedTupleGo_enum (s := { s with heap := h', toks := tk + 1 }) ho fun h'' he' sb => ?_⟩
    have hT2 := (sb.2 _ (Nat.ne_of_gt hel)).trans hT
    have new : ObjOk X.prog X.w (upd H s.heap.objs.size (.tup [.int (i : Nat), x])) h'' s.heap.objs.size (.tup [.int (i : Nat), x]) :=
      ⟨by show 2 ≤ sizeLine; decide, [.int i tk, u], .cons ⟨_, rfl⟩ (.cons ru .nil), ⟨_, hT2, rfl, _, rfl⟩⟩
    have other : ∀ b ob, b ∉ [e, it] → s.heap.get? b = some ob → h''.get? b = some ob := fun b ob hb q => by
      have n1 : b ≠ e := fun z => hb (by simp [z])
      have n2 : b ≠ it := fun z => hb (by simp [z])
      exact (sb.2 b n1).trans (hk b ob n1 n2 q)
    have I1 : Inv X pins σ (upd H s.heap.objs.size (.tup [.int (i : Nat), x])) { s with heap := h'', toks := tk + 1 } := I.turnedNew (ch := [e, it]) other hf (Nat.le_refl _) new
    have fresh := I.hok.fresh (Nat.le_refl s.heap.objs.size)
    refine ⟨.ref s.heap.objs.size, _, I1, rfl, ⟨_, x, rfl, fresh, rfl, fun ys hy => by rw [I.tuple_inj hy hq]; exact hx⟩, ⟨⟨u, ?_⟩, hit'.at fun o q => (sb.2 it (Ne.symm hne)).trans q, hne, hna⟩, fun b hb => ?_⟩
    · rw [show ((i + 1 : Nat) : Int) = (i : Int) + 1 by omega]
      exact he'
    · have hb' : b < s.heap.objs.size := by
        rcases List.mem_cons.mp hb with rfl | hb
        · exact hel
        · obtain rfl := List.mem_singleton.mp hb
          exact hil
      rw [upd_ne (Nat.ne_of_lt hb')]
      exact (hf b hb).1
  done := by
    intro X hP hw hK hc i pins s σ H E I hf st hg
    subst hP hw hK
    obtain ⟨⟨old, he⟩, hit, hne, hna⟩ := st
    obtain ⟨xs, hq, hx⟩ := hg
    obtain ⟨its, rv, p, _⟩ := I.tuple hq
    obtain ⟨f0, f1, f2, f3, f4, f5⟩ := hf it (by simp)
    have hl := rv.length
    have st' : s.heap.IsTupleIter it a i := hit
    have hi : i = its.toArray.size := by rw [List.size_toArray, ← hl]; exact hx.symm
    subst hi
    have D := Draws.tuple (prog := X.prog) (w := X.w) (A := X.A.in1) (by show X.A.handled = none; exact I.ok.hd hc) it a na its.toArray
    exact wpAny_pyNext_enum_endD D he ⟨hit, p⟩ fun h' eb => ⟨rfl, I.turned (t' := s.toks) (fun b o hb q => eb b o hb q) f0 f1 f3 f4 f5⟩
  self := fun A i s Q E st h => by
    obtain ⟨⟨_, he⟩, _⟩ := st
    exact wpAny_pyIter_enum he h
def iEnumT (K : PySem.W.Frag) (ta : TA) : TI := fun σ H R => ta σ H fun vs H1 => ∃ a xs, vs = [.ref a] ∧ SqT K H1 a xs ∧ R (IteT K a) H1
theorem pi_enumT {X : Cx} {e : Expr} {ta : TA} {p pos tpos : Pos} {elts : List Expr} {kk : Nat} (hg : Gl X "enumerate") (hm : X.mg "enumerate" = none) (ha : PA X [e] ta) (hs : starEach [e] X.env = [(false, eval e X.env)] := by rfl) :
    PI X (.Tuple elts kk tpos) (.Call (.Name "enumerate" p) [e] [] pos) (iEnumT X.K ta) := by
  constructor
  intro pins s σ H R I h
  refine Call_ (ld_blt I hg hm boot_enumerate (PyProof.Rows.callWith_type1 (thn (ha.run pos pins s σ H _ I h) ?_) hs rfl))
  rintro us s1 ⟨vs, H1, I1, r1, a, xs, rfl, hq, q⟩
  obtain ⟨u, rfl, ru⟩ := vals1 r1
  obtain rfl : u = Value.ref a := ru
  obtain ⟨its, rv, p', _⟩ := I1.tuple hq
  have lt := p'.lt
  refine enum_of (begins_tuple a its.toArray) p' fun h' he hit hk => wpAny_pyIter_enum he ?_
  have I2 : Inv X pins σ H1 { s1 with heap := h' } := I1.kept (t' := s1.toks) hk
  have fp : ∀ b ∈ [s1.heap.objs.size + 1, s1.heap.objs.size], s1.heap.objs.size ≤ b := fun b hb => by
    rcases List.mem_cons.mp hb with rfl | hb
    · exact Nat.le_succ _
    · rw [List.mem_singleton.mp hb]
      exact Nat.le_refl _
  refine ⟨s1.heap.objs.size + 1, [s1.heap.objs.size + 1, s1.heap.objs.size], _, _, H1, rfl, I2, turn_enumT a (s1.heap.objs.size + 1) s1.heap.objs.size (Nat.ne_of_lt lt), ⟨⟨.none, he⟩, ⟨_, hit, rfl, rfl⟩, Nat.succ_ne_self _, Nat.ne_of_gt (Nat.lt_succ_of_lt lt)⟩, fun b hb => I1.fpOk (fp b hb) (I1.hok.fresh (fp b hb)), q⟩
/-- the turns of a for over an iterator J -/
def ForOf (J : It) (g : TG) (tb : TS) (D : Ends) (σ : L2.St) (H : Hp) : Prop :=
  ∃ U : Nat → Nat → L2.St → Hp → Prop, (∃ k, U 0 k σ H) ∧ ∀ n k ρ h, U n k ρ h → (J.stop n h ∧ D.nx ρ h) ∨ (J.go n h ∧ ∃ Z : L2.St → Hp → Prop, (∀ ρ' h', Z ρ' h' → ∃ k', k' < k ∧ U (n + 1) k' ρ' h') ∧
    ∀ z h', J.yld n h z h' → g z ρ h' fun ρ2 h2 => tb { D with nx := Z, ct := Z, bk := D.nx } ρ2 h2)
theorem for_enumT {K : PySem.W.Frag} {a : Addr} {xs : List V} {g : TG} {tb : TS} {D : Ends} {σ : L2.St} {H : Hp} (Pv : Nat → L2.St → Hp → Prop) (h0 : Pv 0 σ H) (hl : ∀ i ρ h, i ≤ xs.length → Pv i ρ h → SqT K h a xs)
    (hs : ∀ i x T ρ h, xs[i]? = some x → Pv i ρ h → h T = none → g (.ref T) ρ (upd h T (.tup [.int (i : Nat), x])) fun ρ2 h2 => tb { D with nx := Pv (i + 1), ct := Pv (i + 1), bk := D.nx } ρ2 h2) (hd : ∀ ρ h, Pv xs.length ρ h → D.nx ρ h) : ForOf (IteT K a) g tb D σ H := by
  refine ⟨fun i m ρ h => m = xs.length - i ∧ i ≤ xs.length ∧ Pv i ρ h, ⟨_, rfl, Nat.zero_le _, h0⟩, ?_⟩
  rintro i m ρ h ⟨rfl, hi, p⟩
  have q := hl i ρ h hi p
  by_cases l : i < xs.length
  · refine .inr ⟨⟨xs, xs[i], q, by simp [l]⟩, Pv (i + 1), fun ρ' h' p' => ⟨xs.length - (i + 1), by omega, rfl, l, p'⟩, ?_⟩
    rintro z h' ⟨T, x, rfl, hT, rfl, hx⟩
    exact hs i x T ρ h (hx xs q) p hT
  · obtain rfl : i = xs.length := by omega
    exact .inl ⟨⟨xs, q, rfl⟩, hd ρ h p⟩
/-! the rules that read the written part, for a comprehension's block: K said -/
section
variable {X : Cx} (K : PySem.W.Frag)
theorem op_repSK (h : X.K = K := by rfl) : OpR X (binaryOp .Mult) (rRepS K) := h ▸ op_repS
theorem op_catSK (h : X.K = K := by rfl) : OpR X (binaryOp .Add) (rCatS K) := h ▸ op_catS
theorem sl_tupSK (h : X.K = K := by rfl) : SlR X (rSlS K) := h ▸ sl_tupS
theorem sl_listK (h : X.K = K := by rfl) : SlR X (rSlL K) := h ▸ sl_list
theorem ix_listK (h : X.K = K := by rfl) : IxR X (rIxL K) := h ▸ ix_list
theorem ix_tupK (h : X.K = K := by rfl) : IxR X (rIxT K) := h ▸ ix_tup
def rLen (K : PySem.W.Frag) : List V → Hp → VK → Prop := fun xs H Q => ∃ p ys, xs = [.ref p] ∧ (SqL K H p ys ∨ SqT K H p ys) ∧ Q (.int ys.length) H
theorem call_len_seqK (h : X.K = K := by rfl) : CallR X (.builtin "len") (rLen K) := h ▸ call_len_seq
def rTupOf (K : PySem.W.Frag) : List V → Hp → VK → Prop := fun xs H Q => ∃ p ys, xs = [.ref p] ∧ ((SqL K H p ys ∧ ∀ l, H l = none → Q (.ref l) (upd H l (.tup ys))) ∨ (SqT K H p ys ∧ Q (.ref p) H))
theorem call_tuple_ofK (h : X.K = K := by rfl) : CallR X (.type "tuple") (rTupOf K) := h ▸ call_tuple_of
def rListOf (K : PySem.W.Frag) : List V → Hp → VK → Prop := fun xs H Q => ∃ p ys, xs = [.ref p] ∧ (SqL K H p ys ∨ SqT K H p ys) ∧ ∀ l, H l = none → Q (.ref l) (upd H l (.lst ys))
theorem call_list_ofK (h : X.K = K := by rfl) : CallR X (.type "list") (rListOf K) := h ▸ call_list_of
theorem cr_sumK (hc : X.calm = true) (h : X.K = K := by rfl) : CallR X (.builtin "sum") (rSum K) := h ▸ cr_sum hc
theorem op_eqDK (hu : X.A.units + 64 < cLine) (h : X.K = K := by rfl) : OpR X (compareOp .Eq) (rEqD K) := h ▸ op_eqD hu
theorem op_neDK (hu : X.A.units + 64 < cLine) (h : X.K = K := by rfl) : OpR X (compareOp .NotEq) (rNeD K) := h ▸ op_neD hu
end
theorem ty_tup {K : PySem.W.Frag} {H : Hp} {a : Addr} {xs : List V} (h : SqT K H a xs) : TyX K H (.ref a) (.type "tuple") := by
  rcases h with (h | ⟨o, h⟩) | ⟨o, vs, n, hk, hc, _⟩
  · exact .base (.tup h)
  · exact .fTuple h
  · exact .kTuple hk hc
theorem cutV_take (xs : List V) (k : Nat) : cutV xs none (some (k : Int)) = xs.take k := by
  unfold cutV
  rw [HT.sIx_none, HT.sIx_nat, List.drop_zero, Nat.sub_zero]
  by_cases h : k ≤ xs.length
  · rw [Nat.min_eq_left h]
  · rw [Nat.min_eq_right (by omega), List.take_length, List.take_of_length_le (by omega)]
theorem ne_same {d : PyData} {A B : Prop} (h : SeqAt.shaped d = true) (k : B) : if (!PyData.eqv d d) = true then A else B := by
  rw [eqv_same h]
  exact iteF k
theorem ut_take {q : Int} {n i : Nat} {r : List Int} (h : UtRow q n i r) (hi : i < n) : r.take (i + 1) = List.replicate i 0 ++ [1] := by
  obtain ⟨hl, h0, h1, _⟩ := h
  refine List.ext_getElem? fun k => ?_
  have l1 : (List.replicate i (0 : Int)).length = i := List.length_replicate
  by_cases a : k < i
  · rw [List.getElem?_take_of_lt (by omega), h0 k a, List.getElem?_append_left (by omega), List.getElem?_replicate, if_pos a]
  · by_cases b : k = i
    · subst b
      rw [List.getElem?_take_of_lt (by omega), h1, List.getElem?_append_right (by omega), l1, Nat.sub_self]
      rfl
    · rw [List.getElem?_eq_none (by rw [List.length_take]; omega), List.getElem?_eq_none (by rw [List.length_append, l1]; simp; omega)]
theorem ut_row {q : Int} {n : Nat} {M : Mx} (u : UT q n M) {i : Nat} {r : List Int} (hi : i < n) (hr : M[i]? = some r) : UtRow q n i r := by
  obtain ⟨r', e, l, g⟩ := row_get u.s hi
  obtain rfl : r = r' := by rw [e] at hr; exact (Option.some.inj hr).symm
  refine ⟨l, fun j hj => ?_, ?_, fun j x hx => ?_⟩
  · rw [g j (by omega), (u.u i j hi (by omega)).1 hj]
  · rw [g i hi, (u.u i i hi hi).2 rfl]
  · have hj : j < n := by have := (List.getElem?_eq_some_iff.mp hx).1; omega
    rw [g j hj] at hx
    obtain rfl := Option.some.inj hx
    exact u.r i j hi hj
end Vx

namespace Vx
open PySem PySem.Spec PyProof.Rows L2
theorem zt (vs : List Value) : checkTypeCall "zip" ⟨vs, []⟩ = pure () := by kernel_rfl
theorem zo (obj : Value) (vs : List Value) : argsOk "object.__init__" ⟨obj :: vs, []⟩ := by unfold argsOk; kernel_rfl
theorem zn : ∀ (vs : List Value), vs.length ≤ 8 → checkBuiltinCall "zip.__new__" ⟨.type "zip" :: vs, []⟩ = pure ()
  | [], _ => by kernel_rfl
  | [_], _ => by kernel_rfl
  | [_, _], _ => by kernel_rfl
  | [_, _, _], _ => by kernel_rfl
  | [_, _, _, _], _ => by kernel_rfl
  | [_, _, _, _, _], _ => by kernel_rfl
  | [_, _, _, _, _, _], _ => by kernel_rfl
  | [_, _, _, _, _, _, _], _ => by kernel_rfl
  | [_, _, _, _, _, _, _, _], _ => by kernel_rfl
  | _ :: _ :: _ :: _ :: _ :: _ :: _ :: _ :: _ :: _, h => absurd h (by simp)
section
variable {prog : Program} {w : World} {A : Around} {E : Value → Shared → Prop} {s : Shared}
/-- a loop in the machine's own monad, by a word of the turn -/
theorem forIn_by {α β : Type} {M : Model} {A : Around} {E : Value → Shared → Prop} {body : α → β → Sem (ForInStep β)} {Q : β → Shared → Prop} (J : Nat → β → Shared → Prop) : ∀ (l : List α) (k : Nat) (b : β) (s : Shared), J k b s →
    (∀ (j : Nat) (x : α) (b : β) (s : Shared), l[j]? = some x → J (k + j) b s → wpAny M A (body x b) (fun r s' => ∃ b', r = .yield b' ∧ J (k + j + 1) b' s') E s) → (∀ b s, J (k + l.length) b s → Q b s) → wpAny M A (forIn l b body) Q E s
  | [], k, b, s, h, _, hq => by
    rw [List.forIn_nil]
    exact wpAny_pure (hq b s h)
  | x :: l, k, b, s, h, hs, hq => by
    rw [List.forIn_cons]
    refine wpAny_bind (thn (hs 0 x b s rfl h) ?_)
    rintro r s' ⟨b', rfl, h'⟩
    refine forIn_by J l (k + 1) b' s' h' (fun j y c t e g => ?_) (fun c t g => ?_)
    · rw [show k + 1 + j = k + (j + 1) by omega] at g
      rw [show k + 1 + j + 1 = k + (j + 1) + 1 by omega]
      exact hs (j + 1) y c t (by simpa using e) g
    · rw [show k + 1 + l.length = k + (x :: l).length by rw [List.length_cons]; omega] at g
      exact hq c t g
theorem iterAll_tups {ts : List Addr} {items : Nat → Array Value} {Q : List Value → Shared → Prop} (ht : ∀ k t, ts[k]? = some t → s.heap.IsTuple t (items k))
    (h : ∀ h' : Heap, h'.objs.size = s.heap.objs.size + ts.length → (∀ b o, s.heap.get? b = some o → h'.get? b = some o) → (∀ k t, ts[k]? = some t → h'.IsTupleIter (s.heap.objs.size + k) t 0) →
      Q ((List.range ts.length).map fun k => .ref (s.heap.objs.size + k)) { s with heap := h' }) :
    wpAny (model prog w) A (Builtin.SmallTypes.iterAll (ts.map Value.ref)) Q E s := by
  unfold Builtin.SmallTypes.iterAll
  refine wpAny_bind ?_
  refine forIn_by (fun k b s' => b = ((List.range k).map fun k => Value.ref (s.heap.objs.size + k)).toArray ∧ ∃ h', s' = { s with heap := h' } ∧ h'.objs.size = s.heap.objs.size + k ∧ (∀ b o, s.heap.get? b = some o → h'.get? b = some o) ∧ ∀ j t, j < k → ts[j]? = some t → h'.IsTupleIter (s.heap.objs.size + j) t 0) _ 0 _ s ⟨rfl, s.heap, rfl, rfl, fun _ _ e => e, fun j t hj => absurd hj (by omega)⟩ ?_ ?_
  · rintro j x b s' hx ⟨rfl, h', rfl, hz, hk, hi⟩
    rw [Nat.zero_add] at *
    obtain ⟨t, et, rfl⟩ : ∃ t, ts[j]? = some t ∧ x = Value.ref t := by
      rw [List.getElem?_map] at hx
      cases e : ts[j]? with
      | none => rw [e] at hx; cases hx
      | some t => rw [e] at hx; exact ⟨t, rfl, (Option.some.inj hx).symm⟩
    refine wpAny_bind (wpAny_holding (wpAny_pyIter_tuple (s := { s with heap := h' }) ((ht j t et).at fun o e => hk t o e) ?_))
    refine wpAny_pure ⟨_, rfl, ?_, _, rfl, by rw [Heap.size_push, hz]; omega, fun b o e => Heap.get?_push_of_some _ (hk b o e), fun j' t' hj' e' => ?_⟩
    · show Array.push _ (Value.ref h'.objs.size) = _
      rw [hz, List.range_succ, List.map_append]
      simp
    · by_cases c : j' = j
      · subst c
        obtain rfl : t = t' := by rw [et] at e'; exact Option.some.inj e'
        rw [← hz]
        exact ⟨_, Heap.get?_push_size _ rfl, rfl, rfl⟩
      · exact (hi j' t' (by omega) e').at fun o e => Heap.get?_push_of_some _ e
  · rintro b s' ⟨rfl, h', rfl, hz, hk, hi⟩
    rw [Nat.zero_add, List.length_map] at *
    exact wpAny_pure (h h' hz hk fun k t e => hi k t (List.getElem?_eq_some_iff.mp e).1 e)
end
theorem ane {a b : Addr} (h : Nat.lt a b ∨ Nat.lt b a) : a ≠ b := fun e => by
  subst e
  rcases h with h | h <;> exact absurd h (Nat.lt_irrefl _)
/-- the iterators' places -/
def itv (N n : Nat) : List Value := (List.range n).map fun k => Value.ref (N + k)
abbrev tupObj (vs : List Value) : Obj := { cls := .type "tuple", data := .seq vs.toArray }
abbrev zipObj (f0 : Value) (b : Bool) (TI TO : Addr) : Obj := { cls := .type "zip", dict := none, data := .fields #[f0, .bool b, .bool false, .ref TI, .ref TO], slots := #[] }
abbrev zipHeap (h : Heap) (vs : List Value) : Heap := ((h.push (tupObj vs)).push (tupObj (vs.map fun _ => Value.none))).push (zipObj .none false h.objs.size (h.objs.size + 1))
theorem meets_zip (ts : List Addr) (items : Nat → Array Value) (hts : ts.length ≤ sizeLine) :
    Meets (Builtin.«zip.__new__» ⟨.type "zip" :: ts.map Value.ref, []⟩) (fun _ R s => (∀ k t, ts[k]? = some t → s.heap.IsTuple t (items k)) ∧
      ∀ h' : Heap, h'.objs.size = s.heap.objs.size + ts.length → (∀ b o, s.heap.get? b = some o → h'.get? b = some o) → (∀ k t, ts[k]? = some t → h'.IsTupleIter (s.heap.objs.size + k) t 0) →
        R (.ok (.ret (.ref (h'.objs.size + 2)))) { s with heap := zipHeap h' (itv s.heap.objs.size ts.length) }) := by
  refine .of_wp fun prog w A R s h => ?_
  obtain ⟨hp, g, d, tk, os⟩ := s
  obtain ⟨h1, h⟩ := h
  have isZ := sub_zip
  have it : ∀ {A' : Around} {E : Value → Shared → Prop} {Q : List Value → Shared → Prop}, (∀ h' : Heap, h'.objs.size = hp.objs.size + ts.length → (∀ b o, hp.get? b = some o → h'.get? b = some o) → (∀ k t, ts[k]? = some t → h'.IsTupleIter (hp.objs.size + k) t 0) →
      Q (itv hp.objs.size ts.length) ⟨h', g, d, tk, os⟩) → wpAny (model prog w) A' (Builtin.SmallTypes.iterAll (ts.map Value.ref)) Q E ⟨hp, g, d, tk, os⟩ := fun q => iterAll_tups (s := ⟨hp, g, d, tk, os⟩) h1 q
  wp_walk using it
  intro h' hz hk hi
  have len : (itv hp.objs.size ts.length).length = ts.length := by unfold itv; rw [List.length_map, List.length_range]
  refine wpAny_bind (wpAny_newTuple (s := ⟨h', g, d, tk, os⟩) (hsz := by rw [len]; exact hts) ?_)
  refine wpAny_bind (wpAny_newTuple (s := ⟨h'.push _, g, d, tk, os⟩) (hsz := by rw [List.length_map, len]; exact hts) ?_)
  wp_walk
  have e := h h' hz hk hi
  refine ⟨_, rfl, ?_⟩
  simp only [Heap.size_push]
  exact e
section
variable {prog : Program} {w : World} {A : Around} {E : Value → Shared → Prop} {s : Shared} {N n m : Nat} {t : Nat → Addr} {items : Nat → Array Value}
/-- n iterators over tuples of m items stand at N .. and at their place i; their tuple at N + n -/
structure ZSt (N n m : Nat) (t : Nat → Addr) (items : Nat → Array Value) (h : Heap) : Prop where
  TI : h.get? (N + n) = some (tupObj (itv N n))
  tup : ∀ k, k < n → h.IsTuple (t k) (items k)
  low : ∀ k, k < n → t k < N
  sz : ∀ k, k < n → (items k).size = m
/-- the first c of them have been drawn from -/
def Drawn (N n : Nat) (t : Nat → Addr) (i c : Nat) (h : Heap) : Prop := ∀ k, k < n → h.IsTupleIter (N + k) (t k) (if k < c then i + 1 else i)
def col (items : Nat → Array Value) (n i : Nat) : List Value := (List.range n).map fun k => ((items k)[i]?).getD .none
theorem ZSt.other {h h' : Heap} (Z : ZSt N n m t items h) {x : Addr} (sb : Heap.SameBut x h h') (h1 : x ≠ N + n) (h2 : N ≤ x) : ZSt N n m t items h' :=
  ⟨(sb.2 _ (Ne.symm h1)).trans Z.TI, fun k hk => (Z.tup k hk).extBut sb.extBut (fun e => by have := Z.low k hk; rw [e] at this; exact absurd h2 (Nat.not_le.mpr this)), Z.low, Z.sz⟩
theorem itv_get {k : Nat} (h : k < n) : (itv N n)[k]? = some (Value.ref (N + k)) := by
  unfold itv
  rw [List.getElem?_map, List.getElem?_range h]
  rfl
theorem zip_held {z TO T : Addr} {f : Bool} {oT : Obj} {i : Nat} {Q : Value → Shared → Prop} (Z : ZSt N n m t items s.heap) (D : Drawn N n t i 0 s.heap) (hz : s.heap.get? z = some (zipObj (rawInt T) f (N + n) TO)) (hT : s.heap.get? T = some oT) (z1 : N + n < z) (hn : 0 < n) (hn8 : n ≤ 8) (hi : i < m)
    (hQ : ∀ h' : Heap, ZSt N n m t items h' → Drawn N n t (i + 1) 0 h' → h'.get? z = some (zipObj (rawInt T) true (N + n) TO) → h'.get? s.heap.objs.size = some (tupObj (col items n i)) →
      (∀ b o, b ≠ z → (b < N ∨ N + n ≤ b) → s.heap.get? b = some o → h'.get? b = some o) → s.heap.objs.size < h'.objs.size → Q (.ref s.heap.objs.size) { s with heap := h' }) :
    wpAny (model prog w) A (Builtin.«zip.__next__» ⟨[.ref z], []⟩) (fun fin s' => ∃ v, fin = .done (.ret v) ∧ Q v s') E s := by
  show wpAny _ _ (field (.ref z) 2 >>= _) _ _ _
  refine wpAny_bind (wpAny_field hz rfl (x := .bool false) rfl ?_)
  show wpAny _ _ (field (.ref z) 3 >>= _) _ _ _
  refine wpAny_bind (wpAny_field hz rfl (x := .ref (N + n)) rfl (wpAny_bind (wpAny_seqItems Z.TI rfl ?_)))
  have ne : (itv N n).toArray.isEmpty = false := by
    have : (itv N n).length = n := by unfold itv; rw [List.length_map, List.length_range]
    cases e : itv N n with
    | nil => rw [e] at this; simp at this; omega
    | cons a b => rfl
  simp only [ne, Bool.false_eq_true, if_false]
  refine wpAny_bind (wpAny_tupleHeld_zip hz hT fun h1 hz1 hs1 => ?_)
  simp only [Bool.false_eq_true, if_false]
  refine wpAny_bind ?_
  rw [← Array.forIn_toList]
  refine forIn_by (fun c b s' => b = (none, ((List.range c).map fun k => ((items k)[i]?).getD .none).toArray) ∧ ∃ h' : Heap, s' = { s with heap := h' } ∧ h'.objs.size = s.heap.objs.size ∧ ZSt N n m t items h' ∧ Drawn N n t i c h' ∧ h'.get? z = some (zipObj (rawInt T) true (N + n) TO) ∧ ∀ b o, b ≠ z → (b < N ∨ N + n ≤ b) → s.heap.get? b = some o → h'.get? b = some o) _ 0 _ _ ?_ ?_ ?_
  · refine ⟨rfl, h1, rfl, hs1.1, Z.other hs1 (ane (.inr z1)) (by omega), fun k hk => ?_, hz1, fun b o hb _ e => hs1.extBut b o hb e⟩
    exact (D k hk).extBut hs1.extBut (ane (.inl (by show N + k < z; omega)))
  · rintro c x b s' hx ⟨rfl, h2, rfl, sz2, Z2, D2, hz2, k2⟩
    rw [Nat.zero_add] at *
    have hc : c < n := by
      have := (List.getElem?_eq_some_iff.mp hx).1
      simpa [itv] using this
    rw [show (itv N n).toArray.toList = itv N n from rfl, itv_get hc] at hx
    obtain rfl := Option.some.inj hx
    refine wpAny_bind (wpAny_holding ?_)
    show wpAny _ _ (Builtin.SmallTypes.nextOf (.ref (N + c)) >>= _) _ _ _
    have hit := D2 c hc
    rw [if_neg (by omega)] at hit
    have hlt : i < (items c).size := by rw [Z2.sz c hc]; exact hi
    refine wpAny_bind (wpAny_nextOf_tuple_item (s := { s with heap := h2 }) hit (Z2.tup c hc) (Array.getElem?_eq_getElem hlt) fun h3 hit3 hs3 => wpAny_pure (wpAny_pure ?_))
    replace hs3 : Heap.SameBut (N + c) h2 h3 := hs3
    refine ⟨_, rfl, ?_, h3, rfl, hs3.1.trans sz2, Z2.other hs3 (ane (.inl (by show N + c < N + n; omega))) (by omega), fun k hk => ?_, hs3.extBut _ _ (ane (.inr (by show N + c < z; omega))) hz2, fun b o hb hb2 e => hs3.extBut b o (ane (hb2.imp (fun h => Nat.lt_of_lt_of_le h (Nat.le_add_right N c)) fun h => Nat.lt_of_lt_of_le (Nat.add_lt_add_left hc N) h)) (k2 b o hb hb2 e)⟩
    · rw [List.range_succ, List.map_append]
      simp [Array.getElem?_eq_getElem hlt]
    · by_cases e : k = c
      · subst e
        rw [if_pos (by omega)]
        exact hit3
      · have := D2 k hk
        have q := this.extBut hs3.extBut (fun z => e (Nat.add_left_cancel z))
        by_cases l : k < c
        · rw [if_pos (by omega)]; rwa [if_pos l] at q
        · rw [if_neg (by omega)]; rwa [if_neg l] at q
  · rintro b s' ⟨rfl, h2, rfl, sz2, Z2, D2, hz2, k2⟩
    have len : (itv N n).toArray.toList.length = n := by simp [itv]
    rw [Nat.zero_add, len] at D2
    rw [Nat.zero_add, len]
    have sz : (col items n i).length = n := by unfold col; rw [List.length_map, List.length_range]
    show wpAny _ _ (newTuple (col items n i) >>= _) _ _ _
    refine wpAny_bind (wpAny_newTuple (s := { s with heap := h2 }) (hsz := by rw [sz]; exact Nat.le_trans hn8 (by decide)) ?_)
    refine wpAny_pure ⟨_, rfl, ?_⟩
    show Q (.ref h2.objs.size) _
    rw [sz2]
    have up : ∀ b o, h2.get? b = some o → (h2.push (tupObj (col items n i))).get? b = some o := fun b o e => Heap.get?_push_of_some _ e
    refine hQ _ ⟨up _ _ Z2.TI, fun k hk => (Z2.tup k hk).at fun o e => up _ o e, Z2.low, Z2.sz⟩ (fun k hk => ?_) (up _ _ hz2) ?_ (fun b o hb hb2 e => up _ _ (k2 b o hb hb2 e)) (by rw [Heap.size_push, sz2]; exact Nat.lt_succ_self _)
    · have := (D2 k hk).at fun o e => up _ o e
      rw [if_pos hk] at this
      rw [if_neg (by omega)]
      exact this
    · rw [← sz2]
      exact Heap.get?_push_size _ rfl
theorem zip_first {z TO : Addr} {vs : List Value} {Q : Value → Shared → Prop} (Z : ZSt N n m t items s.heap) (D : Drawn N n t 0 0 s.heap) (hz : s.heap.get? z = some (zipObj .none false (N + n) TO)) (hTO : s.heap.get? TO = some (tupObj vs)) (hvs : vs.length = n) (z1 : N + n < z) (t1 : N + n < TO) (zt : z ≠ TO) (hn : 0 < n) (hn8 : n ≤ 8) (hi : 0 < m)
    (hQ : ∀ h' : Heap, ZSt N n m t items h' → Drawn N n t 1 0 h' → h'.get? z = some (zipObj (rawInt s.heap.objs.size) false (N + n) TO) → h'.get? s.heap.objs.size = some (tupObj (col items n 0)) →
      (∀ b o, b ≠ z → b ≠ TO → (b < N ∨ N + n ≤ b) → s.heap.get? b = some o → h'.get? b = some o) → s.heap.objs.size < h'.objs.size → Q (.ref s.heap.objs.size) { s with heap := h' }) :
    wpAny (model prog w) A (Builtin.«zip.__next__» ⟨[.ref z], []⟩) (fun fin s' => ∃ v, fin = .done (.ret v) ∧ Q v s') E s := by
  show wpAny _ _ (field (.ref z) 2 >>= _) _ _ _
  refine wpAny_bind (wpAny_field hz rfl (x := .bool false) rfl ?_)
  show wpAny _ _ (field (.ref z) 3 >>= _) _ _ _
  refine wpAny_bind (wpAny_field hz rfl (x := .ref (N + n)) rfl (wpAny_bind (wpAny_seqItems Z.TI rfl ?_)))
  have ne : (itv N n).toArray.isEmpty = false := by
    have : (itv N n).length = n := by unfold itv; rw [List.length_map, List.length_range]
    cases e : itv N n with
    | nil => rw [e] at this; simp at this; omega
    | cons a b => rfl
  simp only [ne, Bool.false_eq_true, if_false]
  refine wpAny_bind ?_
  unfold Builtin.SmallTypes.ownedTupleIsFree
  refine wpAny_bind (wpAny_field hz rfl (x := .none) rfl (wpAny_pure ?_))
  simp only [if_true]
  refine wpAny_bind (wpAny_rule ?_)
  refine wpAny_bind (wpAny_field hz rfl (x := .ref TO) rfl ?_)
  refine wpAny_bind (wpAny_setField_rec hz (by simp) fun g0 hz0 hs0 => ?_)
  replace hz0 : g0.get? z = some (zipObj .ellipsis false (N + n) TO) := hz0
  refine wpAny_bind ?_
  refine forIn_by (fun c b s' => b = (none, ()) ∧ ∃ (h' : Heap) (arr : Array Value), s' = { s with heap := h' } ∧ h'.objs.size = s.heap.objs.size ∧ ZSt N n m t items h' ∧ Drawn N n t 0 c h' ∧ h'.get? z = some (zipObj .ellipsis false (N + n) TO) ∧
    h'.get? TO = some { cls := .type "tuple", data := .seq arr } ∧ arr.size = n ∧ (∀ k, k < c → arr[k]? = some (((items k)[0]?).getD .none)) ∧ ∀ b o, b ≠ z → b ≠ TO → (b < N ∨ N + n ≤ b) → s.heap.get? b = some o → h'.get? b = some o) _ 0 _ _ ?_ ?_ ?_
  · refine ⟨rfl, g0, _, rfl, hs0.1, Z.other hs0 (ane (.inr z1)) (by omega), fun k hk => ?_, hz0, hs0.extBut _ _ (Ne.symm zt) hTO, by rw [List.size_toArray]; exact hvs, fun k hk => absurd hk (by omega), fun b o hb _ _ e => hs0.extBut b o hb e⟩
    exact (D k hk).extBut hs0.extBut (ane (.inl (by show N + k < z; omega)))
  · rintro c x b s' hx ⟨rfl, h2, arr, rfl, sz2, Z2, D2, hz2, hT2, asz, av, k2⟩
    rw [Nat.zero_add] at *
    rw [List.getElem?_zipIdx] at hx
    have hc : c < n := by
      rw [Option.map_eq_some_iff] at hx
      obtain ⟨_, hx, _⟩ := hx
      have := (List.getElem?_eq_some_iff.mp hx).1
      simpa [itv] using this
    rw [itv_get hc, Option.map_some] at hx
    obtain rfl := Option.some.inj hx
    simp only [Nat.zero_add]
    refine wpAny_bind (wpAny_onRaise ?_)
    show wpAny _ _ (Builtin.SmallTypes.nextOf (.ref (N + c)) >>= _) _ _ _
    have hit := D2 c hc
    rw [if_neg (by omega)] at hit
    have hlt : 0 < (items c).size := by rw [Z2.sz c hc]; exact hi
    refine wpAny_bind (wpAny_nextOf_tuple_item (s := { s with heap := h2 }) hit (Z2.tup c hc) (Array.getElem?_eq_getElem hlt) fun h3 hit3 hs3 => wpAny_pure ?_)
    replace hs3 : Heap.SameBut (N + c) h2 h3 := hs3
    have hT3 : h3.get? TO = some { cls := .type "tuple", data := .seq arr } := hs3.extBut _ _ (ane (.inr (by show N + c < TO; omega))) hT2
    refine wpAny_bind (wpAny_seqItems (s := { s with heap := h3 }) hT3 rfl ?_)
    refine wpAny_bind (wpAny_updateSeq (s := { s with heap := h3 }) hT3 rfl ?_ (by rw [asz]; exact Nat.le_trans hn8 (by decide)) (by rw [Array.size_setIfInBounds, asz]; exact Nat.le_trans hn8 (by decide)))
    refine wpAny_bind (wpAny_letGo (wpAny_pure ⟨_, rfl, rfl, _, arr.setIfInBounds c ((items c)[0]), rfl, ?_⟩))
    generalize hh4 : h3.update TO (Obj.mapSeq fun x_1 => x_1.setIfInBounds c ((items c)[0])) = h4
    have hs4 : Heap.SameBut TO h3 h4 := by rw [← hh4]; exact Heap.SameBut.update ..
    have hT4 : h4.get? TO = some { cls := .type "tuple", data := .seq (arr.setIfInBounds c ((items c)[0])) } := by
      rw [← hh4, Heap.get?_update_self _ hT3 rfl]
      simp [Obj.mapSeq]
    refine ⟨(hs4.1.trans hs3.1).trans sz2, (Z2.other hs3 (ane (.inl (by show N + c < N + n; omega))) (by omega)).other hs4 (ane (.inr t1)) (by omega), fun k hk => ?_, hs4.extBut _ _ zt (hs3.extBut _ _ (ane (.inr (by show N + c < z; omega))) hz2), hT4, by rw [Array.size_setIfInBounds, asz], fun k hk => ?_, fun b o hb hb2 hb3 e => hs4.extBut b o hb2 (hs3.extBut b o (ane (hb3.imp (fun h => Nat.lt_of_lt_of_le h (Nat.le_add_right N c)) fun h => Nat.lt_of_lt_of_le (Nat.add_lt_add_left hc N) h)) (k2 b o hb hb2 hb3 e))⟩
    · have nT : N + k ≠ TO := ane (.inl (by show N + k < TO; omega))
      by_cases e : k = c
      · subst e
        rw [if_pos (by omega)]
        exact hit3.extBut hs4.extBut nT
      · have q := ((D2 k hk).extBut hs3.extBut (fun z => e (Nat.add_left_cancel z))).extBut hs4.extBut nT
        by_cases l : k < c
        · rw [if_pos (by omega)]; rwa [if_pos l] at q
        · rw [if_neg (by omega)]; rwa [if_neg l] at q
    · by_cases e : k = c
      · subst e
        rw [Array.getElem?_setIfInBounds_self, if_pos (by omega), Array.getElem?_eq_getElem hlt]
        rfl
      · rw [Array.getElem?_setIfInBounds_ne (Ne.symm e)]
        exact av k (by omega)
  · rintro b s' ⟨rfl, h2, arr, rfl, sz2, Z2, D2, hz2, hT2, asz, av, k2⟩
    have len : (itv N n).toArray.toList.zipIdx.length = n := by simp [itv]
    rw [Nat.zero_add, len] at D2
    have sz : (col items n 0).length = n := by unfold col; rw [List.length_map, List.length_range]
    have ea : arr.toList = col items n 0 := by
      refine List.ext_getElem? fun k => ?_
      by_cases hk : k < n
      · rw [Array.getElem?_toList, av k (by rw [Nat.zero_add, len]; exact hk), col, List.getElem?_map, List.getElem?_range hk]
        rfl
      · rw [List.getElem?_eq_none (by rw [Array.length_toList, asz]; omega), List.getElem?_eq_none (by rw [sz]; omega)]
    refine wpAny_bind (wpAny_seqItems (s := { s with heap := h2 }) hT2 rfl ?_)
    show wpAny _ _ (newTuple arr.toList >>= _) _ _ _
    rw [ea]
    refine wpAny_bind (wpAny_newTuple (s := { s with heap := h2 }) (hsz := by rw [sz]; exact Nat.le_trans hn8 (by decide)) ?_)
    have up : ∀ b o, h2.get? b = some o → (h2.push (tupObj (col items n 0))).get? b = some o := fun b o e => Heap.get?_push_of_some _ e
    refine wpAny_bind ?_
    show wpAny _ _ (Builtin.SmallTypes.ownedTupleHandOut (.ref z) (.ref h2.objs.size)) _ _ ⟨h2.push (tupObj (col items n 0)), _, _, _, _⟩
    unfold Builtin.SmallTypes.ownedTupleHandOut
    have hz4 : (h2.push (tupObj (col items n 0))).get? z = some (zipObj .ellipsis false (N + n) TO) := up _ _ hz2
    refine wpAny_bind (wpAny_setField_rec hz4 (by simp) fun h5 hz5 hs5 => ?_)
    replace hz5 : h5.get? z = some (zipObj (rawInt h2.objs.size) false (N + n) TO) := hz5
    replace hs5 : Heap.SameBut z (h2.push (tupObj (col items n 0))) h5 := hs5
    refine wpAny_setField_rec hz5 (by simp) fun h6 hz6 hs6 => ?_
    replace hz6 : h6.get? z = some (zipObj (rawInt h2.objs.size) false (N + n) TO) := hz6
    replace hs6 : Heap.SameBut z h5 h6 := hs6
    have zlt : z < h2.objs.size := Heap.lt_size hz2
    have up6 : ∀ b o, b ≠ z → h2.get? b = some o → h6.get? b = some o := fun b o hb e => hs6.extBut b o hb (hs5.extBut b o hb (up b o e))
    refine wpAny_pure ⟨_, rfl, ?_⟩
    show Q (.ref h2.objs.size) _
    have new : h6.get? h2.objs.size = some (tupObj (col items n 0)) := hs6.extBut _ _ (Nat.ne_of_gt zlt) (hs5.extBut _ _ (Nat.ne_of_gt zlt) (Heap.get?_push_size _ rfl))
    rw [sz2] at hz6 new ⊢
    refine hQ h6 ⟨up6 _ _ (ane (.inl z1)) Z2.TI, fun k hk => (Z2.tup k hk).at fun o e => up6 _ o (ane (.inl (Nat.lt_of_lt_of_le (Z2.low k hk) (by omega)))) e, Z2.low, Z2.sz⟩ (fun k hk => ?_) hz6 new (fun b o hb hb2 hb3 e => up6 b o hb (k2 b o hb hb2 hb3 e)) (by rw [hs6.1, hs5.1, Heap.size_push, sz2]; exact Nat.lt_succ_self _)
    have := (D2 k hk).at fun o e => up6 _ o (ane (.inl (by show N + k < z; omega))) e
    rw [if_pos hk] at this
    rw [if_neg (by omega)]
    exact this
theorem zip_end {z TO T : Addr} {f : Bool} {oT : Obj} {Q : Fin → Shared → Prop} (hh : A.handled = none) (Z : ZSt N n m t items s.heap) (D : Drawn N n t m 0 s.heap) (hz : s.heap.get? z = some (zipObj (rawInt T) f (N + n) TO)) (hT : s.heap.get? T = some oT) (z1 : N + n < z) (hn : 0 < n)
    (hE : ∀ h' e, (∀ b o, b ≠ z → (b < N ∨ N + n ≤ b) → s.heap.get? b = some o → h'.get? b = some o) → (∃ o, h'.get? e = some o ∧ o.cls = .type "StopIteration") → E (.ref e) { s with heap := h' }) :
    wpAny (model prog w) A (Builtin.«zip.__next__» ⟨[.ref z], []⟩) Q E s := by
  show wpAny _ _ (field (.ref z) 2 >>= _) _ _ _
  refine wpAny_bind (wpAny_field hz rfl (x := .bool false) rfl ?_)
  show wpAny _ _ (field (.ref z) 3 >>= _) _ _ _
  refine wpAny_bind (wpAny_field hz rfl (x := .ref (N + n)) rfl (wpAny_bind (wpAny_seqItems Z.TI rfl ?_)))
  obtain ⟨c, rfl⟩ : ∃ c, n = c + 1 := ⟨n - 1, by omega⟩
  have e0 : itv N (c + 1) = Value.ref N :: (List.range c).map (fun k => Value.ref (N + (k + 1))) := by
    unfold itv
    rw [List.range_succ_eq_map, List.map_cons, List.map_map]
    rfl
  have ne : (itv N (c + 1)).toArray.isEmpty = false := by rw [e0]; rfl
  simp only [ne, Bool.false_eq_true, if_false]
  refine wpAny_bind (wpAny_tupleHeld_zip hz hT fun h1 hz1 hs1 => ?_)
  simp only [Bool.false_eq_true, if_false]
  refine wpAny_bind ?_
  rw [← Array.forIn_toList, show (itv N (c + 1)).toArray.toList = itv N (c + 1) from rfl, e0, List.forIn_cons]
  refine wpAny_bind (wpAny_bind (wpAny_holding ?_))
  show wpAny _ _ (Builtin.SmallTypes.nextOf (.ref N) >>= _) _ _ _
  have hit := (D 0 hn).extBut hs1.extBut (ane (.inl (by show N + 0 < z; omega)))
  rw [if_neg (by omega)] at hit
  have tup := (Z.tup 0 hn).extBut hs1.extBut (ane (.inl (Nat.lt_of_lt_of_le (Z.low 0 hn) (by omega))))
  refine wpAny_bind (wpAny_nextOf_tuple_end (s := { s with heap := h1 }) hh hit tup (Array.getElem?_eq_none (by rw [Z.sz 0 hn]; exact Nat.le_refl _)) fun h2 e hs2 he => ?_)
  exact hE h2 e (fun b o hb hb2 q => hs2 b o (ane (hb2.imp (fun h => h) fun h => Nat.lt_of_lt_of_le (by omega) h)) (hs1.extBut b o hb q)) he
theorem zip_no_len : typeLookup (.type "zip") "__len__" = pure none := by
  rw [typeLookup_type, builtinLookup_eq_fast]; kernel_rfl
theorem zip_no_hint : typeLookup (.type "zip") "__length_hint__" = pure none := by
  rw [typeLookup_type, builtinLookup_eq_fast]; kernel_rfl
/-- i columns stand in the list at S -/
structure Fill (N n m : Nat) (t : Nat → Addr) (items : Nat → Array Value) (h0 : Heap) (i : Nat) (h : Heap) (acc : Array Value) : Prop where
  Z : ZSt N n m t items h
  D : Drawn N n t i 0 h
  zf : (i = 0 ∧ h.get? (N + n + 2) = some (zipObj .none false (N + n) (N + n + 1)) ∧ ∃ vs : List Value, h.get? (N + n + 1) = some (tupObj vs) ∧ vs.length = n) ∨ (0 < i ∧ ∃ (T : Addr) (f : Bool), acc[0]? = some (.ref T) ∧ h.get? (N + n + 2) = some (zipObj (rawInt T) f (N + n) (N + n + 1)))
  ac : acc.size = i
  made : ∀ j, j < i → ∃ T : Addr, acc[j]? = some (.ref T) ∧ N + n + 3 < T ∧ h.get? T = some (tupObj (col items n j))
  keep : ∀ b o, b < N → h0.get? b = some o → h.get? b = some o
  inj : ∀ (i j : Nat) (T : Addr), acc[i]? = some (.ref T) → acc[j]? = some (.ref T) → i = j
theorem fill_step {h0 : Heap} {i : Nat} {acc : Array Value} {Q : Option Value → Shared → Prop} (Fi : Fill N n m t items h0 i s.heap acc) (hn : 0 < n) (hn8 : n ≤ 8) (hi : i < m) (hsz : N + n + 3 < s.heap.objs.size)
    (hQ : ∀ (h' : Heap) (T : Addr), Fill N n m t items h0 (i + 1) h' (acc.push (.ref T)) → (∀ o, s.heap.get? (N + n + 3) = some o → h'.get? (N + n + 3) = some o) → s.heap.objs.size < h'.objs.size → Q (some (.ref T)) { s with heap := h' }) :
    wpAny (model prog w) A (pyNext (.ref (N + n + 2))) Q E s := by
  have nw : s.heap.get? s.heap.objs.size = none := Heap.get?_none_of_le (Nat.le_refl _)
  have old : ∀ (h' : Heap), (∀ b o, b ≠ N + n + 2 → b ≠ N + n + 1 → (b < N ∨ N + n ≤ b) → s.heap.get? b = some o → h'.get? b = some o) → h'.get? s.heap.objs.size = some (tupObj (col items n i)) →
      (∀ j, j < i + 1 → ∃ T : Addr, (acc.push (Value.ref s.heap.objs.size))[j]? = some (.ref T) ∧ N + n + 3 < T ∧ h'.get? T = some (tupObj (col items n j))) ∧ (∀ b o, b < N → h0.get? b = some o → h'.get? b = some o) ∧ ∀ o, s.heap.get? (N + n + 3) = some o → h'.get? (N + n + 3) = some o := by
    intro h' k new
    refine ⟨fun j hj => ?_, fun b o hb e => k b o (ane (.inl (by show b < N + n + 2; exact Nat.lt_of_lt_of_le hb (by omega)))) (ane (.inl (Nat.lt_of_lt_of_le hb (by omega)))) (.inl hb) (Fi.keep b o hb e), fun o e => k _ o (ane (.inr (Nat.lt_succ_self _))) (ane (.inr (by show N + n + 1 < N + n + 3; omega))) (.inr (by omega)) e⟩
    by_cases c : j = i
    · subst c
      refine ⟨s.heap.objs.size, ?_, hsz, new⟩
      rw [Array.getElem?_push, Fi.ac, if_pos rfl]
    · obtain ⟨T, e1, e2, e3⟩ := Fi.made j (by omega)
      refine ⟨T, ?_, e2, k T _ (ane (.inr (Nat.lt_trans (Nat.lt_succ_self _) e2))) (ane (.inr (Nat.lt_trans (by show N + n + 1 < N + n + 3; omega) e2))) (.inr (Nat.le_of_lt (Nat.lt_of_le_of_lt (by omega) e2))) e3⟩
      rw [Array.getElem?_push, Fi.ac, if_neg c]
      exact e1
  have inj : ∀ (a b : Nat) (T : Addr), (acc.push (Value.ref s.heap.objs.size))[a]? = some (.ref T) → (acc.push (Value.ref s.heap.objs.size))[b]? = some (.ref T) → a = b := by
    have low : ∀ (a : Nat) (T : Addr), acc[a]? = some (.ref T) → T < s.heap.objs.size := by
      intro a T e
      obtain ⟨T', e', _, g⟩ := Fi.made a (by rw [← Fi.ac]; exact (Array.getElem?_eq_some_iff.mp e).1)
      rw [e] at e'; cases e'
      exact Heap.lt_size g
    intro a b T ha hb
    rw [Array.getElem?_push] at ha hb
    by_cases ca : a = acc.size
    · by_cases cb : b = acc.size
      · rw [ca, cb]
      · rw [if_pos ca] at ha; rw [if_neg cb] at hb
        cases ha
        exact absurd (low _ _ hb) (Nat.lt_irrefl _)
    · rw [if_neg ca] at ha
      by_cases cb : b = acc.size
      · rw [if_pos cb] at hb
        cases hb
        exact absurd (low _ _ ha) (Nat.lt_irrefl _)
      · rw [if_neg cb] at hb
        exact Fi.inj a b T ha hb
  have go : ∀ (f0 : Value) (b0 : Bool) (hz : s.heap.get? (N + n + 2) = some (zipObj f0 b0 (N + n) (N + n + 1))), (∀ E' : Value → Shared → Prop, wpAny (model prog w) A.in1 (Builtin.«zip.__next__» ⟨[.ref (N + n + 2)], []⟩) (fun fin s' => ∃ v, fin = .done (.ret v) ∧ Q (some v) s') E' s) → wpAny (model prog w) A (pyNext (.ref (N + n + 2))) Q E s := by
    intro f0 b0 hz hw
    have hTy : s.TypeIs (.ref (N + n + 2)) "zip" := ⟨_, hz, rfl⟩
    unfold pyNext
    refine wpAny_bind (wpAny_attempt (wpAny_callSpecial?_slot (name := Str.ofString "__next__") hTy F.slot_zip_next (wpAny_call_entry F.slot_zip_next hTy F.entry_zip_next ?_ (F.args_zip_next_1 _))))
    refine thn (hw _) ?_
    rintro fin' s' ⟨v, e, q⟩
    exact ⟨v, e, wpAny_pure q⟩
  rcases Fi.zf with ⟨i0, hz, vs, hT, hv⟩ | ⟨i0, T, f, e1, hz⟩
  · subst i0
    refine go _ _ hz fun E' => (zip_first Fi.Z Fi.D hz hT hv (by show N + n < N + n + 2; omega) (by show N + n < N + n + 1; omega) (ane (.inr (Nat.lt_succ_self _))) hn hn8 hi ?_)
    intro h' Z' D' z' new k sz
    obtain ⟨m1, m2, m3⟩ := old h' k new
    refine hQ h' _ ⟨Z', D', .inr ⟨by omega, _, _, ?_, z'⟩, by rw [Array.size_push, Fi.ac], m1, m2, inj⟩ m3 sz
    rw [Array.getElem?_push, Fi.ac, if_pos (by omega)]
  · obtain ⟨T', e2, e3, e4⟩ := Fi.made 0 i0
    obtain rfl : T = T' := by rw [e1] at e2; cases e2; rfl
    refine go _ _ hz fun E' => (zip_held Fi.Z Fi.D hz e4 (by show N + n < N + n + 2; omega) hn hn8 hi ?_)
    intro h' Z' D' z' new k sz
    obtain ⟨m1, m2, m3⟩ := old h' (fun b o b1 _ b3 => k b o b1 b3) new
    refine hQ h' _ ⟨Z', D', .inr ⟨by omega, T, _, ?_, z'⟩, by rw [Array.size_push, Fi.ac], m1, m2, inj⟩ m3 sz
    rw [Array.getElem?_push, Fi.ac, if_neg (by omega)]
    exact e1
/-- list(zip(..)) fills its list -/
theorem zip_loop {h0 : Heap} {R : Result → Shared → Prop} {res : Value} (hh : A.handled = none) (hn : 0 < n) (hn8 : n ≤ 8) (hm : 0 < m) (hm2 : m ≤ 1000) : ∀ (k i : Nat) (s : Shared) (acc : Array Value) (c : Nat), m - i = k → i ≤ m → Fill N n m t items h0 i s.heap acc → N + n + 3 < s.heap.objs.size →
    s.heap.get? (N + n + 3) = some { cls := .type "list", dict := none, data := .seq acc c, slots := #[] } →
    (∀ (h' : Heap) (acc' : Array Value) (c' : Nat), (∀ b o, b < N → h0.get? b = some o → h'.get? b = some o) → h'.get? (N + n + 3) = some { cls := .type "list", dict := none, data := .seq acc' c', slots := #[] } → acc'.size = m →
      (∀ j, j < m → ∃ T : Addr, acc'[j]? = some (.ref T) ∧ N + n + 3 < T ∧ h'.get? T = some (tupObj (col items n j))) → (∀ (i j : Nat) (T : Addr), acc'[i]? = some (.ref T) → acc'[j]? = some (.ref T) → i = j) → R (.ok (.ret res)) { s with heap := h' }) →
    codeAny (model prog w) A (.builtin "list.extend.loop" ⟨[.ref (N + n + 3), .ref (N + n + 2), res], []⟩) R s := by
  intro k
  induction k with
  | zero =>
    intro i s acc c hk hi Fi sz hS hR
    obtain rfl : i = m := by omega
    refine codeAny_builtin F.entry_extend_loop ?_
    rw [Around.under_plainId F.plain_extend_loop _]
    show wpAny _ A.in1 (pyNext (.ref (N + n + 2)) >>= _) _ _ s
    refine wpAny_bind ?_
    rcases Fi.zf with ⟨i0, _⟩ | ⟨i0, T, f, e1, hz⟩
    · omega
    obtain ⟨T', e2, e3, e4⟩ := Fi.made 0 i0
    obtain rfl : T = T' := by rw [e1] at e2; cases e2; rfl
    have hTy : s.TypeIs (.ref (N + n + 2)) "zip" := ⟨_, hz, rfl⟩
    unfold pyNext
    refine wpAny_bind (wpAny_attempt (wpAny_callSpecial?_slot (name := Str.ofString "__next__") hTy F.slot_zip_next (wpAny_call_entry F.slot_zip_next hTy F.entry_zip_next
      (zip_end hh Fi.Z Fi.D hz e4 (by show N + n < N + n + 2; omega) hn fun h' e ks he => ?_) (F.args_zip_next_1 _))))
    obtain ⟨o, ho, hc⟩ := he
    refine wpAny_bind (wpAny_isInstance (T := "StopIteration") (b := true) ⟨o, ho, hc⟩ isSubtype_stop ?_)
    refine wpAny_pure (wpAny_pure (hR h' acc c (fun b o hb q => ks b o (ane (.inl (Nat.lt_of_lt_of_le hb (by omega)))) (.inl hb) (Fi.keep b o hb q)) (ks _ _ (ane (.inr (Nat.lt_succ_self _))) (.inr (by omega)) hS) Fi.ac (fun j hj => ?_) Fi.inj))
    obtain ⟨T2, q1, q2, q3⟩ := Fi.made j hj
    exact ⟨T2, q1, q2, ks T2 _ (ane (.inr (Nat.lt_trans (Nat.lt_succ_self _) q2))) (.inr (Nat.le_of_lt (Nat.lt_of_le_of_lt (by omega) q2))) q3⟩
  | succ k ih =>
    intro i s acc c hk hi Fi sz hS hR
    refine codeAny_builtin F.entry_extend_loop ?_
    rw [Around.under_plainId F.plain_extend_loop _]
    show wpAny _ A.in1 (pyNext (.ref (N + n + 2)) >>= _) _ _ s
    refine wpAny_bind (fill_step Fi hn hn8 (by omega) sz fun h' T Fi' kS sz' => ?_)
    have hS' := kS _ hS
    show wpAny _ A.in1 (updateSeq (N + n + 3) (·.push (Value.ref T)) >>= _) _ _ _
    refine wpAny_bind (wpAny_updateSeq (s := { s with heap := h' }) hS' rfl (wpAny_pure ⟨plainId_quiet F.plain_extend_loop _, ?_⟩) (by rw [Fi.ac]; exact Nat.le_of_lt (small1000 (by omega))) (by show (acc.push _).size ≤ _; rw [Array.size_push, Fi.ac]; exact Nat.succ_le_succ (Nat.le_of_lt (small1000 (by omega)))))
    generalize hh5 : h'.update (N + n + 3) (Obj.mapSeq fun x => x.push (Value.ref T)) = h5
    have up : ∀ b o, b ≠ N + n + 3 → h'.get? b = some o → h5.get? b = some o := fun b o hb e => by rw [← hh5]; exact (Heap.get?_update_other _ _ (Ne.symm hb)).trans e
    have new : h5.get? (N + n + 3) = some { cls := .type "list", dict := none, data := .seq (acc.push (Value.ref T)) (c + 1), slots := #[] } := by
      rw [← hh5, Heap.get?_update_self _ hS' rfl]
      simp [Obj.mapSeq]
    have s5 : h5.objs.size = h'.objs.size := by rw [← hh5]; exact (Heap.SameBut.update ..).1
    have F5 : Fill N n m t items h0 (i + 1) h5 (acc.push (.ref T)) := by
      refine ⟨⟨up _ _ (ane (.inl (by show N + n < N + n + 3; omega))) Fi'.Z.TI, fun k hk => (Fi'.Z.tup k hk).at fun o e => up _ o (ane (.inl (Nat.lt_of_lt_of_le (Fi'.Z.low k hk) (by omega)))) e, Fi'.Z.low, Fi'.Z.sz⟩, fun k hk => (Fi'.D k hk).at fun o e => up _ o (ane (.inl (by show N + k < N + n + 3; omega))) e, ?_, Fi'.ac, fun j hj => ?_, fun b o hb e => up b o (ane (.inl (Nat.lt_of_lt_of_le hb (by omega)))) (Fi'.keep b o hb e), Fi'.inj⟩
      · rcases Fi'.zf with ⟨i0, _⟩ | ⟨i0, T1, f, e1, hz⟩
        · omega
        · exact .inr ⟨i0, T1, f, e1, up _ _ (ane (.inl (Nat.lt_succ_self _))) hz⟩
      · obtain ⟨T2, q1, q2, q3⟩ := Fi'.made j hj
        exact ⟨T2, q1, q2, up T2 _ (ane (.inr q2)) q3⟩
    exact ih (i + 1) { s with heap := h5 } (acc.push (.ref T)) (c + 1) (by omega) (by omega) F5 (by show N + n + 3 < h5.objs.size; rw [s5]; exact Nat.lt_trans sz sz') new hR
/-- list(z) of a zip that has just been made -/
theorem zip_init {R : Result → Shared → Prop} (hh : A.handled = none) (hn : 0 < n) (hn8 : n ≤ 8) (hm : 0 < m) (hm2 : m ≤ 1000) (Fi : Fill N n m t items s.heap 0 s.heap #[]) (sz : s.heap.objs.size = N + n + 4) (hS : s.heap.get? (N + n + 3) = some { cls := .type "list", data := .seq #[] })
    (hR : ∀ (h' : Heap) (acc' : Array Value) (c' : Nat), (∀ b o, b < N → s.heap.get? b = some o → h'.get? b = some o) → h'.get? (N + n + 3) = some { cls := .type "list", dict := none, data := .seq acc' c', slots := #[] } → acc'.size = m →
      (∀ j, j < m → ∃ T : Addr, acc'[j]? = some (.ref T) ∧ N + n + 3 < T ∧ h'.get? T = some (tupObj (col items n j))) → (∀ (i j : Nat) (T : Addr), acc'[i]? = some (.ref T) → acc'[j]? = some (.ref T) → i = j) → R (.ok (.ret .none)) { s with heap := h' }) :
    wpAny (model prog w) A.in1 (Builtin.«list.__init__» ⟨[.ref (N + n + 3), .ref (N + n + 2)], []⟩)
      (fun fin s' => match fin with | .done f => R (.ok f) s' | .again c' => c'.quiet = true ∧ codeAny (model prog w) A c' R s') (fun e s' => R (.error e) s') s := by
  rcases Fi.zf with ⟨_, hz, vs, hT, hv⟩ | ⟨i0, _⟩
  rotate_left
  · exact absurd i0 (Nat.lt_irrefl _)
  show wpAny _ A.in1 (Builtin.List.listItems (.ref (N + n + 3)) >>= fun old => Builtin.List.listUpdate (.ref (N + n + 3)) (fun _ => #[]) >>= fun _ => letGo old.toList.reverse >>= fun _ => Builtin.List.listExtendWith (.ref (N + n + 3)) (.ref (N + n + 2)) .none) _ _ s
  refine wpAny_bind ?_
  unfold Builtin.List.listItems
  refine wpAny_bind (wpAny_seqItems hS rfl (wpAny_pure ?_))
  show wpAny _ A.in1 (updateSeq (N + n + 3) (fun _ => #[]) >>= fun _ => letGo (#[] : Array Value).toList.reverse >>= fun _ => Builtin.List.listExtendWith (.ref (N + n + 3)) (.ref (N + n + 2)) .none) _ _ s
  -- every change of the list's own object keeps the rest
  have step : ∀ (g : Heap) (f : Array Value → Array Value) (xs : Array Value) (c : Nat), g.get? (N + n + 3) = some { cls := .type "list", dict := none, data := .seq xs c, slots := #[] } → ∃ g' c', g.update (N + n + 3) (Obj.mapSeq f) = g' ∧ g'.get? (N + n + 3) = some { cls := .type "list", dict := none, data := .seq (f xs) c', slots := #[] } ∧ g'.objs.size = g.objs.size ∧ ∀ b o, b ≠ N + n + 3 → g.get? b = some o → g'.get? b = some o := by
    intro g f xs c hg
    exact ⟨_, _, rfl, Heap.get?_update_self _ hg rfl, (Heap.SameBut.update ..).1, fun b o hb e => (Heap.get?_update_other _ _ (Ne.symm hb)).trans e⟩
  have carry : ∀ (g g' : Heap), g'.objs.size = g.objs.size → (∀ b o, b ≠ N + n + 3 → g.get? b = some o → g'.get? b = some o) → Fill N n m t items s.heap 0 g #[] → Fill N n m t items s.heap 0 g' #[] := by
    intro g g' _ up Fg
    refine ⟨⟨up _ _ (ane (.inl (by show N + n < N + n + 3; omega))) Fg.Z.TI, fun k hk => (Fg.Z.tup k hk).at fun o e => up _ o (ane (.inl (Nat.lt_of_lt_of_le (Fg.Z.low k hk) (by omega)))) e, Fg.Z.low, Fg.Z.sz⟩, fun k hk => (Fg.D k hk).at fun o e => up _ o (ane (.inl (by show N + k < N + n + 3; omega))) e, ?_, rfl, fun j hj => absurd hj (Nat.not_lt_zero _), fun b o hb e => up b o (ane (.inl (Nat.lt_of_lt_of_le hb (by omega)))) (Fg.keep b o hb e), Fg.inj⟩
    rcases Fg.zf with ⟨_, q1, ws, q2, q3⟩ | ⟨i0, _⟩
    · exact .inl ⟨rfl, up _ _ (ane (.inl (Nat.lt_succ_self _))) q1, ws, up _ _ (ane (.inl (by show N + n + 1 < N + n + 3; omega))) q2, q3⟩
    · exact absurd i0 (Nat.lt_irrefl _)
  obtain ⟨g1, c1, e1, l1, z1, k1⟩ := step s.heap (fun _ => #[]) #[] _ hS
  have F1 := carry _ _ z1 k1 Fi
  refine wpAny_bind (wpAny_updateSeq hS rfl (wpAny_bind (wpAny_letGo ?_)))
  rw [e1]
  unfold Builtin.List.listExtendWith
  have hz1 : g1.get? (N + n + 2) = some (zipObj .none false (N + n) (N + n + 1)) := k1 _ _ (ane (.inl (Nat.lt_succ_self _))) hz
  have hTy : (⟨g1, s.gens, s.drawn, s.toks, s.os⟩ : Shared).TypeIs (.ref (N + n + 2)) "zip" := ⟨_, hz1, rfl⟩
  refine wpAny_bind (wpAny_typeOf hTy ?_)
  have h1 : Builtin.List.listSameRef (.ref (N + n + 3)) (.ref (N + n + 2)) = false := by simp [Builtin.List.listSameRef]
  have h2 : (Value.type "zip" == Value.type "list") = false := by decide
  have h3 : (Value.type "zip" == Value.type "tuple") = false := by decide
  simp only [h1, h2, h3, Bool.or_false, Bool.false_eq_true, if_false]
  refine wpAny_bind (wpAny_pyIter_zip (s := ⟨g1, s.gens, s.drawn, s.toks, s.os⟩) hz1 (wpAny_bind (wpAny_holding ?_)))
  unfold Builtin.List.listLengthHint
  refine wpAny_bind (wpAny_specialOf hTy zip_no_len ?_)
  show wpAny _ A.in1 (specialOf (Value.ref (N + n + 2)) (Str.ofString "__length_hint__") >>= _) _ _ _
  refine wpAny_bind (wpAny_specialOf hTy zip_no_hint (wpAny_pure ?_))
  show wpAny _ A.in1 (rule "list.extend.makes-room" >>= fun _ => Builtin.List.listTouch (.ref (N + n + 3)) >>= fun _ =>
    again (.builtin "list.extend.loop" ⟨[.ref (N + n + 3), .ref (N + n + 2), .none], []⟩)) _ _ _
  refine wpAny_bind (wpAny_rule ?_)
  refine wpAny_bind ?_
  show wpAny _ A.in1 (updateSeq (N + n + 3) (·.push .none) >>= fun _ => updateSeq (N + n + 3) (·.pop)) _ _ _
  obtain ⟨g2, c2, e2, l2, z2, k2⟩ := step g1 (·.push .none) #[] _ l1
  have F2 := carry _ _ z2 k2 F1
  refine wpAny_bind (wpAny_updateSeq (s := ⟨g1, s.gens, s.drawn, s.toks, s.os⟩) l1 rfl ?_)
  rw [e2]
  obtain ⟨g3, c3, e3, l3, z3, k3⟩ := step g2 (·.pop) _ _ l2
  have F3 := carry _ _ z3 k3 F2
  refine wpAny_updateSeq (s := ⟨g2, s.gens, s.drawn, s.toks, s.os⟩) l2 rfl ?_
  rw [e3]
  have hsz3 : N + n + 3 < g3.objs.size := by rw [z3, z2, z1, sz]; omega
  refine wpAny_pure ⟨plainId_quiet F.plain_extend_loop _, zip_loop hh hn hn8 hm hm2 m 0 ⟨g3, s.gens, s.drawn, s.toks, s.os⟩ #[] c3 (Nat.sub_zero _) (Nat.zero_le _) F3 hsz3 l3 ?_⟩
  exact hR
end
end Vx

namespace Vx
open PySem PySem.Spec PyProof.Rows L2
/-- a built-in class called with one starred argument -/
theorem callWith_typeS {M : Model} {A : Around} {E : Value → Shared → Prop} {s : Shared} {pos p : Pos} {T : String} {env : Env} {e : Expr} {Q : Value → Shared → Prop}
    (h : wpAny M A (eval e env) (fun v s₁ => PySem.W.StarOf M A E v (fun us s₂ => wpAny M A (call (.type T) us) Q E s₂) s₁) E s) (he : starEach [.Starred e p] env = [(true, eval e env)] := by rfl) :
    wpAny M A (callWith pos (.type T) [] (backTo pos (starEach [.Starred e p] env)) []) Q E s := by
  rw [he]
  refine PySem.W.ks_call (P := fun _ => True) rfl (fun h _ => ⟨.machine, .inr (.inl rfl), .of_pure rfl⟩) (PySem.W.ks_lone (Q := fun a s₁ => True ∧ wpAny M A (call (.type T) ([] ++ a.pos) a.kw) Q E s₁) ?_)
  refine thn h fun v s₁ h₁ => ?_
  unfold PySem.W.StarOf at h₁ ⊢
  exact thn h₁ fun b s₂ h₂ => ⟨h₂.1, thn h₂.2 fun us s₃ h₃ => ⟨trivial, h₃⟩⟩
section
variable {prog : Program} {w : World} {A : Around} {E : Value → Shared → Prop} {s : Shared}
theorem call_zipN {ts : List Addr} {items : Nat → Array Value} {Q : Value → Shared → Prop} (h8 : ts.length ≤ 8) (ht : ∀ k t, ts[k]? = some t → s.heap.IsTuple t (items k))
    (hQ : ∀ h' : Heap, h'.objs.size = s.heap.objs.size + ts.length → (∀ b o, s.heap.get? b = some o → h'.get? b = some o) → (∀ k t, ts[k]? = some t → h'.IsTupleIter (s.heap.objs.size + k) t 0) →
      Q (.ref (h'.objs.size + 2)) { s with heap := zipHeap h' (itv s.heap.objs.size ts.length) }) : wpAny (model prog w) A (call (.type "zip") (ts.map Value.ref)) Q E s := by
  refine callType_new F.called_zip (by decide) (zt _) (zn _ (by rw [List.length_map]; exact h8)) (fun obj => zo obj _) F.entry_zip_new (meets_zip ts items (Nat.le_trans h8 (by decide))) ⟨ht, fun h' hz hk hi => ?_⟩
  have e : ((h'.push (tupObj (itv s.heap.objs.size ts.length))).push (tupObj ((itv s.heap.objs.size ts.length).map fun _ => Value.none))).objs.size = h'.objs.size + 2 := by rw [Heap.size_push, Heap.size_push]
  have g : (zipHeap h' (itv s.heap.objs.size ts.length)).get? (h'.objs.size + 2) = some (zipObj .none false h'.objs.size (h'.objs.size + 1)) := by
    rw [← e]
    exact Heap.get?_push_size _ rfl
  exact ⟨⟨_, g, rfl⟩, hQ h' hz hk hi⟩
/-- list(zip(..)): n tuples of m items each -/
theorem call_listZip {n m : Nat} {ts : List Addr} {items : Nat → Array Value} {Q : Value → Shared → Prop} (hh : A.handled = none) (hl : ts.length = n) (hn : 0 < n) (hn8 : n ≤ 8) (hm : 0 < m) (hm2 : m ≤ 1000)
    (ht : ∀ k t, ts[k]? = some t → s.heap.IsTuple t (items k)) (hs : ∀ k, k < n → (items k).size = m)
    (hQ : ∀ (h' : Heap) (acc' : Array Value) (c' : Nat) (L : Addr), s.heap.objs.size ≤ L → (∀ b o, s.heap.get? b = some o → h'.get? b = some o) → h'.get? L = some { cls := .type "list", dict := none, data := .seq acc' c', slots := #[] } → acc'.size = m →
      (∀ j, j < m → ∃ T : Addr, acc'[j]? = some (.ref T) ∧ L < T ∧ h'.get? T = some (tupObj (col items n j))) → (∀ (i j : Nat) (T : Addr), acc'[i]? = some (.ref T) → acc'[j]? = some (.ref T) → i = j) → Q (.ref L) { s with heap := h' }) :
    wpAny (model prog w) A (call (.type "zip") (ts.map Value.ref)) (fun v s1 => wpAny (model prog w) A (call (.type "list") [v]) Q E s1) E s := by
  subst hl
  refine call_zipN hn8 ht fun h' hz hk hi => ?_
  generalize hN : s.heap.objs.size = N at *
  have sz : (zipHeap h' (itv N ts.length)).objs.size = N + ts.length + 3 := by simp only [Heap.size_push, hz]
  have g1 : (zipHeap h' (itv N ts.length)).get? (N + ts.length) = some (tupObj (itv N ts.length)) := by
    refine Heap.get?_push_of_some _ (Heap.get?_push_of_some _ ?_)
    rw [← hz]
    exact Heap.get?_push_size _ rfl
  have g2 : (zipHeap h' (itv N ts.length)).get? (N + ts.length + 1) = some (tupObj ((itv N ts.length).map fun _ => Value.none)) := by
    refine Heap.get?_push_of_some _ ?_
    have e : (h'.push (tupObj (itv N ts.length))).objs.size = N + ts.length + 1 := by rw [Heap.size_push, hz]
    rw [← e]
    exact Heap.get?_push_size _ rfl
  have g3 : (zipHeap h' (itv N ts.length)).get? (N + ts.length + 2) = some (zipObj .none false (N + ts.length) (N + ts.length + 1)) := by
    have e : ((h'.push (tupObj (itv N ts.length))).push (tupObj ((itv N ts.length).map fun _ => Value.none))).objs.size = N + ts.length + 2 := by rw [Heap.size_push, Heap.size_push, hz]
    rw [← e, ← hz]
    exact Heap.get?_push_size _ rfl
  have up0 : ∀ b o, h'.get? b = some o → (zipHeap h' (itv N ts.length)).get? b = some o := fun b o e => Heap.get?_push_of_some _ (Heap.get?_push_of_some _ (Heap.get?_push_of_some _ e))
  rw [show h'.objs.size + 2 = N + ts.length + 2 by rw [hz]]
  generalize hZ : zipHeap h' (itv N ts.length) = hp at *
  refine callType_codes (Q₁ := fun obj s₁ => obj = .ref (N + ts.length + 3) ∧ s₁ = { s with heap := hp.push { cls := .type "list", data := .seq #[] } }) F.called_list (F.typeCall_list_1 _) F.entry_list_init
    (code_list_new _ ⟨by rw [show ({ s with heap := hp } : Shared).heap.objs.size = N + ts.length + 3 from sz], rfl⟩) fun obj s₁ h₁ => ?_
  obtain ⟨rfl, rfl⟩ := h₁
  have hS : (hp.push { cls := .type "list", data := .seq #[] }).get? (N + ts.length + 3) = some { cls := .type "list", data := .seq #[] } := by
    rw [← sz]
    exact Heap.get?_push_size _ rfl
  have up1 : ∀ b o, hp.get? b = some o → (hp.push { cls := .type "list", data := .seq #[] }).get? b = some o := fun b o e => Heap.get?_push_of_some _ e
  have tk : ∀ k, k < ts.length → ts[k]? = some (ts[k]?.getD 0) := fun k hk => by rw [List.getElem?_eq_getElem hk]; rfl
  have Fi : Fill N ts.length m (fun k => ts[k]?.getD 0) items (hp.push { cls := .type "list", data := .seq #[] }) 0 (hp.push { cls := .type "list", data := .seq #[] }) #[] := by
    refine ⟨⟨up1 _ _ g1, fun k hk' => ?_, fun k hk' => ?_, hs⟩, fun k hk' => ?_, .inl ⟨rfl, up1 _ _ g3, _, up1 _ _ g2, ?_⟩, rfl, fun j hj => absurd hj (Nat.not_lt_zero _), fun b o _ e => e, fun i j T e => by simp at e⟩
    · exact (ht k _ (tk k hk')).at fun o e => up1 _ o (up0 _ o (hk _ o e))
    · obtain ⟨o, ho, _⟩ := ht k _ (tk k hk')
      rw [← hN]
      exact Heap.lt_size ho
    · rw [if_neg (Nat.not_lt_zero _)]
      exact (hi k _ (tk k hk')).at fun o e => up1 _ o (up0 _ o e)
    · unfold itv; rw [List.length_map, List.length_map, List.length_range]
  refine ⟨⟨_, hS, rfl⟩, F.args_list_init_2 _ _, zip_init (A := A.in1) hh hn hn8 hm hm2 Fi (by show (hp.push _).objs.size = _; rw [Heap.size_push, sz]) hS fun h2 acc c kp gL sz2 made inj => ?_⟩
  refine ⟨rfl, hQ h2 acc c _ (by omega) (fun b o e => kp b o ?_ (up1 _ _ (up0 _ _ (hk b o e)))) gL sz2 made inj⟩
  rw [← hN]
  exact Heap.lt_size e
end
end Vx

namespace Vx
open PySem PySem.Spec PyProof.Rows L2
/-- several objects are new at once -/
theorem inv_many {X : Cx} {pins : List (Addr × Obj)} {σ : L2.St} {H H' : Hp} {s : Shared} {h' : Heap} {t' : Nat} (I : Inv X pins σ H s) (k : ∀ b u, s.heap.get? b = some u → h'.get? b = some u) (same : Same H H')
    (new : ∀ b u, H b = none → H' b = some u → ObjOk X.prog X.w H' h' b u ∧ s.heap.objs.size ≤ b) : Inv X pins σ H' { s with heap := h', toks := t' } := by
  refine I.un ⟨fun b o e _ _ _ => k b o e, fun b o e _ _ _ => ⟨o.slots, k b o e⟩, fun b o e n _ => ?_, fun b o e _ => ⟨o, k b o e⟩, fun b xs e => same _ _ e, fun b o u e => same _ _ e, fun b ps e => ⟨#[], by rw [same _ _ e]; simp⟩⟩ fun b u e => ?_
  · cases q : H' b with
    | none => rfl
    | some u => exact absurd (Nat.lt_of_lt_of_le (Heap.lt_size e) (new b u n q).2) (Nat.lt_irrefl _)
  · cases q : H b with
    | none => exact (new b u q e).1
    | some v =>
      obtain rfl : v = u := by rw [same _ _ q] at e; exact Option.some.inj e
      exact (I.hok b v q).stay (fun c v' _ z => k c v' z) (fun c z => same _ _ z) fun c xs z => same _ _ z
def colV (rows : List (List V)) (j : Nat) : List V := rows.map fun r => (r[j]?).getD .non
def tLZ (K : PySem.W.Frag) (te : TE) : TE := fun σ H Q => te σ H fun x H1 => ∃ (p : Addr) (ps : List Addr) (rows : List (List V)) (m : Nat), x = V.ref p ∧ (SqT K H1 p (ps.map V.ref) ∨ SqL K H1 p (ps.map V.ref)) ∧ ps.length = rows.length ∧ 0 < ps.length ∧ ps.length ≤ 8 ∧ 0 < m ∧ m ≤ 1000 ∧
  (∀ (k : Nat) (q : Addr) (r : List V), ps[k]? = some q → rows[k]? = some r → SqT K H1 q r ∧ r.length = m) ∧
  ∀ (L : Addr) (Ts : List Addr) (H2 : Hp), Same H1 H2 → H1 L = none → H2 L = some (.lst (Ts.map V.ref)) → Ts.length = m → (∀ (j : Nat) (t : Addr), Ts[j]? = some t → H1 t = none ∧ t ≠ L ∧ H2 t = some (.tup (colV rows j))) → Q (.ref L) H2
open Classical in
theorem pe_listZip {X : Cx} {e : Expr} {te : TE} {p p2 sp_ pos pos2 : Pos} (hc : X.calm = true) (hg : Gl X "list") (hm : X.mg "list" = none) (hg2 : Gl X "zip") (hm2 : X.mg "zip" = none) (he : PE X e te)
    (na : starEach [.Call (.Name "zip" p2) [.Starred e sp_] [] pos2] X.env = (false, eval (.Call (.Name "zip" p2) [.Starred e sp_] [] pos2) X.env) :: starEach [] X.env := by rfl)
    (hst : starEach [.Starred e sp_] X.env = [(true, eval e X.env)] := by rfl) : PE X (.Call (.Name "list" p) [.Call (.Name "zip" p2) [.Starred e sp_] [] pos2] [] pos) (tLZ X.K te) := by
  refine ⟨fun pins s σ H Q I h => ?_⟩
  refine Call_ (ld_blt I hg hm boot_list (PyProof.Rows.callWith_type1 (args_cons ?_ na) na))
  refine Call_ (ld_blt I hg2 hm2 PyProof.Rows.boot_zip (callWith_typeS (thn (he.run pins s σ H _ I h) fun v s1 ⟨y, H1, I1, ry, q⟩ => ?_) hst))
  obtain ⟨a, ps, rows, m, rfl, hsq, hlen, hn, hn8, hm0, hm1, hrow, q⟩ := q
  obtain rfl : v = Value.ref a := ry
  refine StX.star_any I1 hsq fun us s2 I2 rv => ?_
  have us_eq : us = ps.map Value.ref := by
    have all : ∀ (l : List Addr) (us : List Value), Vals (l.map V.ref) us → us = l.map Value.ref := by
      intro l
      induction l with
      | nil => intro us r; cases r; rfl
      | cons x l ih =>
        intro us r
        cases r with
        | cons r1 r2 =>
          cases r1
          rw [ih _ r2] <;> rfl
    exact all ps us rv
  subst us_eq
  have ex : ∀ k : Nat, ∃ its : Array Value, ∀ (b : Addr) (r : List V), ps[k]? = some b → rows[k]? = some r → s2.heap.IsTuple b its ∧ Vals r its.toList := by
    intro k
    cases e1 : ps[k]? with
    | none => exact ⟨#[], fun b r z => by cases z⟩
    | some b =>
      cases e2 : rows[k]? with
      | none => exact ⟨#[], fun b r _ z => by cases z⟩
      | some r =>
        obtain ⟨its, r1, p1, _⟩ := I2.tuple (hrow k b r e1 e2).1
        refine ⟨its.toArray, fun b' r' z1 z2 => ?_⟩
        cases z1; cases z2
        exact ⟨p1, by simpa using r1⟩
  have rk : ∀ (k : Nat) (b : Addr), ps[k]? = some b → ∃ r, rows[k]? = some r := by
    intro k b e
    have := (List.getElem?_eq_some_iff.mp e).1
    exact ⟨_, List.getElem?_eq_getElem (by omega)⟩
  have pk : ∀ k : Nat, k < ps.length → ∃ (b : Addr) (r : List V), ps[k]? = some b ∧ rows[k]? = some r := fun k hk => ⟨_, _, List.getElem?_eq_getElem hk, List.getElem?_eq_getElem (by omega)⟩
  refine wpAny_mono (call_listZip (n := ps.length) (m := m) (items := fun k => (ex k).choose) (Q := fun r s3 => EP X pins σ Q r s3) (I2.ok.hd hc) rfl hn hn8 hm0 hm1 ?_ ?_ ?_) ?_ fun _ _ z => z
  · intro k t e
    obtain ⟨r, er⟩ := rk k t e
    exact ((ex k).choose_spec t r e er).1
  · intro k hk
    obtain ⟨b, r, e1, e2⟩ := pk k hk
    have z := ((ex k).choose_spec b r e1 e2).2.length
    rw [(hrow k b r e1 e2).2] at z
    simpa using z.symm
  · intro h' acc c L hL kp gL sz made inj
    have addr : ∃ Ts : List Addr, acc.toList = Ts.map Value.ref := by
      refine ⟨(List.range m).map fun j => if hj : j < m then (made j hj).choose else 0, ?_⟩
      refine List.ext_getElem (by simp [sz]) fun j h1 h2 => ?_
      have hj : j < m := by simpa [sz] using h1
      have z := (made j hj).choose_spec.1
      rw [List.getElem_map, List.getElem_map, List.getElem_range, dif_pos hj]
      have z2 : acc[j]? = some (acc.toList[j]) := by rw [Array.getElem_toList]; exact Array.getElem?_eq_getElem (by rw [sz]; exact hj)
      exact Option.some.inj (z2.symm.trans z)
    obtain ⟨Ts, eT⟩ := addr
    have tl : Ts.length = m := by
      have := congrArg List.length eT
      simpa [sz] using this.symm
    have tget : ∀ (j : Nat) (t : Addr), Ts[j]? = some t → acc[j]? = some (Value.ref t) := by
      intro j t e
      rw [← Array.getElem?_toList, eT, List.getElem?_map, e]
      rfl
    have tmade : ∀ (j : Nat) (t : Addr), Ts[j]? = some t → L < t ∧ h'.get? t = some (tupObj (col (fun k => (ex k).choose) ps.length j)) := by
      intro j t e
      have hj : j < m := by rw [← tl]; exact (List.getElem?_eq_some_iff.mp e).1
      obtain ⟨T, e1, e2, e3⟩ := made j hj
      rw [tget j t e] at e1
      cases e1
      exact ⟨e2, e3⟩
    have tinj : ∀ (i j : Nat) (t : Addr), Ts[i]? = some t → Ts[j]? = some t → i = j := fun i j t a b => inj i j t (tget i t a) (tget j t b)
    let H2 : Hp := fun b => if b = L then some (.lst (Ts.map V.ref)) else if e : ∃ j : Nat, Ts[j]? = some b then some (.tup (colV rows e.choose)) else H1 b
    have h2L : H2 L = some (.lst (Ts.map V.ref)) := if_pos rfl
    have h2T : ∀ (j : Nat) (t : Addr), Ts[j]? = some t → H2 t = some (.tup (colV rows j)) := by
      intro j t e
      have ne : t ≠ L := fun z => by have := (tmade j t e).1; rw [z] at this; exact Nat.lt_irrefl _ this
      have ex2 : ∃ j : Nat, Ts[j]? = some t := ⟨j, e⟩
      show (if t = L then _ else if e : ∃ j : Nat, Ts[j]? = some t then some (HO.tup (colV rows e.choose)) else H1 t) = _
      rw [if_neg ne, dif_pos ex2, tinj _ _ _ ex2.choose_spec e]
    have frT : ∀ (j : Nat) (t : Addr), Ts[j]? = some t → H1 t = none := fun j t e => I2.hok.fresh (Nat.le_trans hL (Nat.le_of_lt (tmade j t e).1))
    have frL : H1 L = none := I2.hok.fresh hL
    have same : Same H1 H2 := by
      intro b u e
      have n1 : b ≠ L := fun z => by rw [z, frL] at e; cases e
      have n2 : ¬ ∃ j : Nat, Ts[j]? = some b := fun ⟨j, z⟩ => by rw [frT j b z] at e; cases e
      show (if b = L then _ else if e : ∃ j : Nat, Ts[j]? = some b then some (HO.tup (colV rows e.choose)) else H1 b) = _
      rw [if_neg n1, dif_neg n2]
      exact e
    refine ⟨.ref L, H2, inv_many (t' := s2.toks) I2 kp same fun b u n e => ?_, rfl, q L Ts H2 same frL h2L tl fun j t e => ⟨frT j t e, fun z => by have := (tmade j t e).1; rw [z] at this; exact Nat.lt_irrefl _ this, h2T j t e⟩⟩
    by_cases n1 : b = L
    · subst n1
      rw [h2L] at e
      cases e
      refine ⟨⟨?_, acc.toList, c, ?_, by rw [Array.toArray_toList]; exact gL⟩, hL⟩
      · rw [List.length_map, tl]; exact Nat.le_of_lt (small1000 hm1)
      · rw [eT]
        have all : ∀ l : List Addr, Vals (l.map V.ref) (l.map Value.ref) := fun l => by
          induction l with
          | nil => exact .nil
          | cons x l ih => exact .cons rfl ih
        exact all Ts
    · by_cases n2 : ∃ j : Nat, Ts[j]? = some b
      · obtain ⟨j, z⟩ := n2
        rw [h2T j b z] at e
        cases e
        obtain ⟨m1, m2⟩ := tmade j b z
        refine ⟨⟨?_, _, ?_, ⟨_, m2, rfl, _, rfl⟩⟩, Nat.le_trans hL (Nat.le_of_lt m1)⟩
        · show (colV rows j).length ≤ _
          unfold colV
          rw [List.length_map, ← hlen]
          exact Nat.le_trans hn8 (by decide)
        · have hj : j < m := by rw [← tl]; exact (List.getElem?_eq_some_iff.mp z).1
          refine vals_of_at (by unfold colV col; rw [List.length_map, List.length_map, List.length_range, hlen]) fun k x u e1 e2 => ?_
          have hk : k < ps.length := by
            have := (List.getElem?_eq_some_iff.mp e1).1
            unfold colV at this
            rw [List.length_map, ← hlen] at this
            exact this
          obtain ⟨b', r, q1, q2⟩ := pk k hk
          obtain ⟨_, rv'⟩ := (ex k).choose_spec b' r q1 q2
          unfold colV at e1
          unfold col at e2
          rw [List.getElem?_map, q2] at e1
          rw [List.getElem?_map, List.getElem?_range hk] at e2
          cases e1
          cases e2
          have hr : j < r.length := by rw [(hrow k b' r q1 q2).2]; exact hj
          obtain ⟨w, ew, rw'⟩ := rv'.get (List.getElem?_eq_getElem hr)
          rw [Array.getElem?_toList] at ew
          show RelV ((r[j]?).getD .non) (((ex k).choose[j]?).getD .none)
          rw [List.getElem?_eq_getElem hr, ew]
          exact rw'
      · exfalso
        have : H2 b = H1 b := by
          show (if b = L then _ else if e : ∃ j : Nat, Ts[j]? = some b then some (HO.tup (colV rows e.choose)) else H1 b) = _
          rw [if_neg n1, dif_neg n2]
        rw [this, n] at e
        cases e
  · intro v s3 h3
    exact args_nil h3
end Vx

namespace Vx
open PySem PySem.Spec PyProof.Rows L2
/-- a comprehension over zip of two tuples of one length -/
theorem lc_zipT {K : PySem.W.Frag} {a b : Addr} {xs ys : List V} {g : TG} {tt : TT} {te : TE} {vs : List Nat} {σ : L2.St} {H1 : Hp} {D : Addr} {Qd : Hp → Prop} (hl : xs.length = ys.length) (Pv : Nat → Hp → Prop) (h0 : Pv 0 (upd H1 D (.lst [])))
    (hq : ∀ i H, i ≤ xs.length → Pv i H → SqT K H a xs ∧ SqT K H b ys)
    (hs : ∀ (i : Nat) (x y : V) (T : Addr) (H : Hp), xs[i]? = some x → ys[i]? = some y → Pv i H → H T = none → g (.ref T) (wipe σ vs) (upd H T (.tup [x, y])) fun σ2 H2 => wipe σ2 vs = wipe σ vs ∧ tt σ2 H2 fun b H3 =>
      if b = true then te σ2 H3 fun y H4 => ∃ acc, H4 D = some (.lst acc) ∧ acc.length < sizeLine ∧ Pv (i + 1) (upd H4 D (.lst (acc ++ [y]))) else Pv (i + 1) H3) (hd : ∀ H, Pv xs.length H → Qd H) :
    ∃ W : Nat → Nat → Hp → Prop, (∃ m, W 0 m (upd H1 D (.lst []))) ∧ ∀ i m H, W i m H →
      ((RZ.ItzT K a b).stop i H ∧ Qd H) ∨ ((RZ.ItzT K a b).go i H ∧ ∃ Nx : Hp → Prop, (∀ H', Nx H' → ∃ m', m' < m ∧ W (i + 1) m' H') ∧ ∀ x H', (RZ.ItzT K a b).yld i H x H' → g x (wipe σ vs) H' fun σ2 H2 => wipe σ2 vs = wipe σ vs ∧ tt σ2 H2 fun b H3 =>
        if b = true then te σ2 H3 fun y H4 => ∃ acc, H4 D = some (.lst acc) ∧ acc.length < sizeLine ∧ Nx (upd H4 D (.lst (acc ++ [y]))) else Nx H3) := by
  refine ⟨fun i m H => m = xs.length - i ∧ i ≤ xs.length ∧ Pv i H, ⟨xs.length, by simp, Nat.zero_le _, h0⟩, ?_⟩
  rintro i m H ⟨rfl, hi, p⟩
  obtain ⟨q1, q2⟩ := hq i H hi p
  by_cases hlt : i < xs.length
  · refine .inr ⟨⟨xs, ys, xs[i], ys[i]'(by omega), q1, q2, by simp [hlt], by simp [show i < ys.length by omega]⟩, Pv (i + 1), fun H' p' => ⟨xs.length - (i + 1), by omega, rfl, hlt, p'⟩, ?_⟩
    rintro z H' ⟨T, x, y, rfl, hT, rfl, hx, hy⟩
    exact hs i x y T H (hx xs q1) (hy ys q2) p hT
  · obtain rfl : i = xs.length := by omega
    exact .inl ⟨⟨xs, ys, q1, q2, .inl (Nat.le_refl _)⟩, hd H p⟩
/-- a target that takes a tuple or a list -/
def gOr (g1 g2 : TG) : TG := fun v σ H Q => g1 v σ H Q ∨ g2 v σ H Q
theorem pg_or {X : Cx} {tg : Expr} {g1 g2 : TG} (h1 : PG X tg g1) (h2 : PG X tg g2) : PG X tg (gOr g1 g2) := by
  constructor
  intro pins s σ H v u Q I r h
  rcases h with h | h
  · exact h1.run pins s σ H v u Q I r h
  · exact h2.run pins s σ H v u Q I r h
section
variable {X : Cx} (K : PySem.W.Frag)
theorem pi_listK {tg e : Expr} {te : TE} (he : PE X e te) (h : X.K = K := by rfl) : PI X tg e (iList K te) := h ▸ pi_list he
theorem pi_tupK {tg e : Expr} {te : TE} (he : PE X e te) (h : X.K = K := by rfl) : PI X tg e (iTup K te) := h ▸ pi_tup he
theorem pi_zipAK {e e2 : Expr} {ta : TA} {p pos tpos : Pos} {elts : List Expr} {kk : Nat} (hg : Gl X "zip") (hm : X.mg "zip" = none) (ha : PA X [e, e2] ta)
    (hs : starEach [e, e2] X.env = (false, eval e X.env) :: starEach [e2] X.env := by rfl) (hpl : (backTo pos (starEach [e2] X.env)).any (·.1) = false := by rfl) (h : X.K = K := by rfl) :
    PI X (.Tuple elts kk tpos) (.Call (.Name "zip" p) [e, e2] [] pos) (RZ.iZipA K ta) := h ▸ RZ.pi_zipA hg hm ha hs hpl
theorem pg_tupK {es : List Expr} {k : Nat} {t : TGs} {n : Nat} {pos : Pos} (hc : X.calm = true) (ht : PGs X es t)
    (hn : (assignEach es X.env).length = n := by rfl) (hst : (assignEach es X.env).findIdx? (·.1) = none := by rfl) (h : X.K = K := by rfl) : PG X (.Tuple es k pos) (gTup K n t) := h ▸ pg_tup hc ht hn hst
theorem pe_listZipK {e : Expr} {te : TE} {p p2 sp_ pos pos2 : Pos} (hc : X.calm = true) (hg : Gl X "list") (hm : X.mg "list" = none) (hg2 : Gl X "zip") (hm2 : X.mg "zip" = none) (he : PE X e te)
    (na : starEach [.Call (.Name "zip" p2) [.Starred e sp_] [] pos2] X.env = (false, eval (.Call (.Name "zip" p2) [.Starred e sp_] [] pos2) X.env) :: starEach [] X.env := by rfl)
    (hst : starEach [.Starred e sp_] X.env = [(true, eval e X.env)] := by rfl) (h : X.K = K := by rfl) : PE X (.Call (.Name "list" p) [.Call (.Name "zip" p2) [.Starred e sp_] [] pos2] [] pos) (tLZ K te) := h ▸ pe_listZip hc hg hm hg2 hm2 he na hst
end
end Vx

namespace Vx
open PySem PySem.Spec PyProof.Rows L2
/-! sets of texts: made of a list, sorted -/
def txt (v : Value) : Str := match v with
  | .str x _ => x
  | _ => ⟨#[]⟩
def Tx (w : World) (e : Int × Value) : Prop := ∃ x u, e = (hashStr w x, Value.str x u)
def keysT (es : Array (Int × Value)) : List Str := es.toList.map fun e => txt e.2
abbrev setObj (es : Array (Int × Value)) (ep : Nat) (t : SetTable) : Obj := { cls := .type "set", dict := none, data := .set es ep t, slots := #[] }
/-- a table that can be walked -/
structure Tab (w : World) (es : Array (Int × Value)) (t : SetTable) : Prop where
  tx : ∀ e ∈ es.toList, Tx w e
  nd : (keysT es).Nodup
  bd : es.size < scanBound
  ft : t.fits es.size = true
  rs : Ris t.place.toList
  ld : w.params.followText "set-order" = true ∨ t.led = true
/-- the set of texts at a, the texts in some order -/
def TxS (w : World) (h : Heap) (a : Addr) (ks : List Str) : Prop := ∃ es ep t, h.get? a = some (setObj es ep t) ∧ Tab w es t ∧ keysT es = ks
theorem TxS.at {w : World} {h h' : Heap} {a : Addr} {ks : List Str} (R : TxS w h a ks) (k : ∀ o, h.get? a = some o → h'.get? a = some o) : TxS w h' a ks := by
  obtain ⟨es, ep, t, e, r⟩ := R
  exact ⟨es, ep, t, k _ e, r⟩
theorem tx_is {P : Program} {w : World} {e : Int × Value} (h : Tx w e) (k : Str) : (strKind P w).is k e.2 = true ↔ txt e.2 = k := by
  obtain ⟨x, u, rfl⟩ := h
  show ((x == k) = true) ↔ x = k
  exact beq_iff_eq
theorem tx_elems {P : Program} {w : World} {l : List (Int × Value)} (h : ∀ e ∈ l, Tx w e) : ElemsOf (strKind P w) l := by
  intro e he
  obtain ⟨x, u, rfl⟩ := h e he
  exact ⟨⟨x, (tx_is (P := P) ⟨x, u, rfl⟩ x).mpr rfl, rfl⟩, rfl⟩
theorem keys_len (es : Array (Int × Value)) : (keysT es).length = es.size := by unfold keysT; rw [List.length_map, Array.length_toList]
section
variable {P : Program} {w : World} {A : Around} {E : Value → Shared → Prop} {s : Shared} {a : Addr}
/-- behind a place that was found: store, perhaps all laid anew -/
theorem txs_tail {f : Bool → Sem Unit} {es0 es1 : Array (Int × Value)} {ep : Nat} {t0 t1 : SetTable} {wd : Bool} {R : Option Bool → Shared → Prop}
    (hf : ∀ b s1 (Q' : Unit → Shared → Prop), Q' () s1 → wpAny (model P w) A (f b) Q' E s1) (ho : s.heap.get? a = some (setObj es0 ep t0)) (T : Tab w es1 t1)
    (hR : ∀ h' es2, Heap.SameBut a s.heap h' → TxS w h' a es2 → es2.Perm (keysT es1) → R (some true) { s with heap := h' }) :
    wpAny (model P w) A (do
      storeSet a es1 t1
      if (!wd && t1.tooFull) = true then do
        f (relayAll t1 es1 (SetTable.grown es1.size)).2.2
        storeSet a (relayAll t1 es1 (SetTable.grown es1.size)).1 (relayAll t1 es1 (SetTable.grown es1.size)).2.1
        pure (some true)
      else pure (some true)) R E s := by
  have at1 : (s.heap.update a (Obj.putSet es1 t1)).get? a = some (setObj es1 (ep + 1) t1) := Heap.get?_update_self (Obj.putSet es1 t1) ho rfl
  have b1 : Heap.SameBut a s.heap (s.heap.update a (Obj.putSet es1 t1)) := .update ..
  refine wpAny_bind (wpAny_storeSet_of ho rfl ?_ (fits_of_scanBound T.bd))
  by_cases c : (!wd && t1.tooFull) = true
  · rw [if_pos c]
    have p1 := relayAll_perm t1 es1 (SetTable.grown es1.size)
    have p2 := relayAll_fits t1 es1 (SetTable.grown es1.size)
    have p3 := relayAll_ris t1 es1 (SetTable.grown es1.size)
    have p4 := relayAll_led t1 es1 (SetTable.grown es1.size)
    revert p1 p2 p3 p4
    obtain ⟨es2, t2, gv⟩ := relayAll t1 es1 (SetTable.grown es1.size)
    intro p1 p2 p3 p4
    replace p1 : es2.toList.Perm es1.toList := p1
    have n2 : es2.size = es1.size := by simpa using p1.length_eq
    have T2 : Tab w es2 t2 := ⟨fun e he => T.tx e (p1.mem_iff.mp he), (p1.map _).nodup_iff.mpr T.nd, n2 ▸ T.bd, p2, p3, T.ld.imp id fun z => p4.trans z⟩
    refine wpAny_bind (hf _ _ _ (wpAny_bind (wpAny_storeSet_of at1 rfl (wpAny_pure ?_) (fits_of_scanBound T2.bd))))
    exact hR _ (keysT es2) (b1.trans (.update ..)) ⟨es2, _, t2, Heap.get?_update_self (Obj.putSet es2 t2) at1 rfl, T2, rfl⟩ (p1.map _)
  · rw [if_neg c]
    exact wpAny_pure (hR _ _ b1 ⟨es1, _, t1, at1, T, rfl⟩ (.refl _))
/-- a text is put in -/
theorem txs_add {k : Str} {u : Tok} {ks : List Str} {Q : Bool → Shared → Prop} (R : TxS w s.heap a ks) (room : ks.length + 1 < scanBound)
    (hQ : ∀ b h' ks', Heap.SameBut a s.heap h' → TxS w h' a ks' → (∀ x, x ∈ ks' ↔ x = k ∨ x ∈ ks) → ks'.length ≤ ks.length + 1 → Q b { s with heap := h' }) :
    wpAny (model P w) A (setAddHashed a (.str k u) (hashStr w k)) Q E s := by
  obtain ⟨es, ep, t, ho, T, rfl⟩ := R
  have is_k : (strKind P w).is k (.str k u) = true := (tx_is (P := P) (w := w) ⟨k, u, rfl⟩ k).mpr rfl
  have el : ElemsOf (strKind P w) es.toList := tx_elems T.tx
  have lay := layNew_perm t es (hashStr w k) (.str k u)
  have lay2 := layNew_fits t es (hashStr w k) (.str k u)
  have lay3 := layNew_ris t es (hashStr w k) (.str k u) T.rs
  have lay4 := layNew_led t es (hashStr w k) (.str k u)
  unfold setAddHashed setAddHashedIn
  refine wpAny_holding (wpAny_bind (wpAny_setState_of ho rfl T.ft ?_))
  simp only [byScan_of (x := .str k u) rfl T.bd el, ↓reduceIte]
  unfold setAddByScan
  refine wpAny_bind (wpAny_bind (wpAny_rule (wpAny_bind (wpAny_setScan_of is_k ho rfl T.ft el ?_))))
  have mem : ∀ x, x ∈ keysT es ↔ ∃ e ∈ es.toList, txt e.2 = x := fun x => by unfold keysT; exact List.mem_map
  cases fi : es.toList.findIdx? fun e => (strKind P w).is k e.2 with
  | some j =>
    obtain ⟨hj, pj, _⟩ := List.findIdx?_eq_some_iff_getElem.mp fi
    have hin : k ∈ keysT es := (mem k).mpr ⟨_, List.getElem_mem hj, (tx_is (T.tx _ (List.getElem_mem hj)) k).mp pj⟩
    refine wpAny_pure (wpAny_pure (hQ _ s.heap (keysT es) (.refl ..) ⟨es, ep, t, ho, T, rfl⟩ (fun x => ⟨.inr, ?_⟩) (Nat.le_succ _)))
    rintro (rfl | h)
    · exact hin
    · exact h
  | none =>
    have out : k ∉ keysT es := fun z => by
      obtain ⟨e, he, q⟩ := (mem k).mp z
      have no := List.findIdx?_eq_none_iff.mp fi e he
      rw [(tx_is (P := P) (T.tx e he) k).mpr q] at no
      exact Bool.noConfusion no
    dsimp only
    revert lay lay2 lay3 lay4
    show _ → _ → _ → _ → _
    generalize layNew t es (hashStr w k) (.str k u) = Z
    obtain ⟨es1, t1, wd, gv⟩ := Z
    intro lay lay2 lay3 lay4
    dsimp only at lay lay2 lay3 lay4 ⊢
    rw [Array.toList_push] at lay
    have pm : es1.toList.Perm ((hashStr w k, Value.str k u) :: es.toList) := lay.trans (List.perm_append_singleton _ _)
    have pk : (keysT es1).Perm (k :: keysT es) := List.Perm.map (fun e : Int × Value => txt e.2) pm
    have sz : es1.size = es.size + 1 := by simpa using pm.length_eq
    have n1 : (k :: keysT es).Nodup := List.nodup_cons.mpr ⟨out, T.nd⟩
    have bd1 : es1.size < scanBound := by rw [sz, ← keys_len es]; exact room
    have T1 : ∀ pl : Bool, Tab w es1 { t1 with plain := pl } := fun pl => by
      refine ⟨fun e he => ?_, pk.nodup_iff.mpr n1, bd1, lay2, lay3, T.ld.imp id fun z => lay4.trans z⟩
      rcases List.mem_cons.mp (pm.mem_iff.mp he) with rfl | he
      · exact ⟨k, u, rfl⟩
      · exact T.tx e he
    have give : ∀ (b : Bool) (s1 : Shared) (Q' : Unit → Shared → Prop), Q' () s1 → wpAny (model P w) A (match b with | true => rule "set.scan.the-table-gave-way" | false => pure ()) Q' E s1 := by
      intro b s1 Q' q
      cases b
      · exact wpAny_pure q
      · exact wpAny_rule q
    have last : ∀ h' ks', Heap.SameBut a s.heap h' → TxS w h' a ks' → ks'.Perm (keysT es1) → Q true { s with heap := h' } := fun h' ks' sb R' p' => by
      have p2 := p'.trans pk
      refine hQ true h' ks' sb R' (fun x => by rw [p2.mem_iff, List.mem_cons]) (by rw [p2.length_eq]; exact Nat.le_refl _)
    refine wpAny_bind (give _ _ _ ?_)
    by_cases c : t1.plain = true
    · rw [if_pos c]
      refine wpAny_bind ?_
      rw [hashByValue_scannable 8 (x := .str k u) rfl]
      refine wpAny_pure ?_
      refine txs_tail (t1 := { t1 with plain := false }) ?_ ho (T1 false) fun h' ks' sb R' p' => wpAny_pure (last h' ks' sb R' p')
      exact fun b s1 Q' q => give b s1 Q' q
    · rw [if_neg c]
      refine wpAny_bind (wpAny_pure ?_)
      refine txs_tail (t1 := t1) ?_ ho ?_ fun h' ks' sb R' p' => wpAny_pure (last h' ks' sb R' p')
      · exact fun b s1 Q' q => give b s1 Q' q
      · have z := T1 t1.plain
        exact z
/-- the texts that an iterator gives are put in -/
theorem txs_loop {I D : Addr} {fp wr : List Addr} {G : Array GenState → Array GenState → Prop} {n : Nat} {Pv : Nat → Value → Prop} {St : Nat → Shared → Prop} {xs : List Str} {R : Result → Shared → Prop}
    (W : WalksS P w A.in1 I fp wr G n Pv St) (hD : D ∉ fp) (hn : n = xs.length) (hb : n + 1 < scanBound) (hv : ∀ i v, Pv i v → ∃ x u, xs[i]? = some x ∧ v = Value.str x u) :
    ∀ (k i : Nat) (s : Shared), n - i = k → i ≤ n → St i s → (∃ ks, TxS w s.heap D ks ∧ ks.length ≤ i ∧ ∀ x, x ∈ ks ↔ x ∈ xs.take i) →
      (∀ s' ks, Moved (D :: wr) G s s' → TxS w s'.heap D ks → ks.length ≤ n → (∀ x, x ∈ ks ↔ x ∈ xs) → R (.ok (.ret .none)) s') → codeAny (model P w) A (.builtin "set.update.loop" ⟨[.ref D, .ref I], []⟩) R s := by
  have nD : D ∉ wr := fun z => hD (W.sub _ z)
  have up : ∀ {c : Addr}, c ∈ wr → c ∈ D :: wr := fun z => List.mem_cons_of_mem _ z
  intro k
  induction k with
  | zero =>
    rintro i s hk hi st ⟨ks, hS, hl, hm⟩ hR
    obtain rfl : i = n := by omega
    refine codeAny_builtin F.entry_set_update_loop ?_
    rw [Around.under_plainId F.plain_set_update_loop _]
    refine wpAny_bind (W.done s _ _ st fun s' mv => wpAny_pure ?_)
    rw [List.take_of_length_le (by omega)] at hm
    exact hR s' ks (mv.mono fun b hb => up hb) (hS.at fun o e => mv.heap D o nD e) hl hm
  | succ k ih =>
    rintro i s hk hi st ⟨ks, hS, hl, hm⟩ hR
    refine codeAny_builtin F.entry_set_update_loop ?_
    rw [Around.under_plainId F.plain_set_update_loop _]
    refine wpAny_bind (W.item i s _ _ (by omega) st fun v s1 pv st1 mv => ?_)
    obtain ⟨x, u, hx, rfl⟩ := hv i v pv
    show wpAny _ A.in1 (holding [Value.str x u] (setAdd D (.str x u)) >>= _) _ _ s1
    refine wpAny_bind (wpAny_holding ?_)
    unfold setAdd
    refine wpAny_holding (wpAny_bind ((strKind P w).pyHash (k := x) ((tx_is (P := P) (w := w) ⟨x, u, rfl⟩ x).mpr rfl) ?_))
    have hS1 : TxS w s1.heap D ks := hS.at fun o e => mv.heap D o nD e
    refine txs_add (s := { s1 with toks := s1.toks + 1 }) hS1 (by omega) fun b h' ks' sb hS2 hm2 hl2 => ?_
    replace sb : Heap.SameBut D s1.heap h' := sb
    have other : ∀ c o, c ≠ D → s1.heap.get? c = some o → h'.get? c = some o := fun c o ne e => (sb.2 c ne).trans e
    refine wpAny_pure ⟨plainId_quiet F.plain_set_update_loop _, ih (i + 1) _ (by omega) (by omega) (W.frame _ s1 _ _ st1 (Nat.le_succ _) fun c hc o e => other c o (fun z => hD (z ▸ hc)) e) ⟨ks', hS2, by omega, fun y => ?_⟩ fun s2 ks2 mv2 => ?_⟩
    · rw [hm2, hm, List.take_add_one, hx, List.mem_append]
      simp only [Option.toList_some, List.mem_singleton]
      exact Or.comm
    · exact hR s2 ks2 (Moved.trans W.gtrans ((mv.mono fun b hb => up hb).then_heap (Nat.le_succ _) fun c o hc e => other c o (fun z => hc (z ▸ List.mem_cons_self)) e) mv2)
/-- a class of the built-ins is called whose __init__ is the machine's own: its two parts as codes -/
theorem callType_two {T newId initId : String} {args : List Value} {Q Q1 : Value → Shared → Prop} (ft : TypeCalled T newId initId) (hct : checkTypeCall T ⟨args, []⟩ = pure ())
    (hnew : codeAny (model P w) A.in1 (.call (.builtin newId) ⟨.type T :: args, []⟩) (wants Q1 E) s)
    (hini : ∀ obj s1, Q1 obj s1 → s1.TypeIs obj T ∧ codeAny (model P w) A.in1 (.call (.builtin initId) ⟨obj :: args, []⟩) (wants (fun r s2 => r = .none ∧ Q obj s2) E) s1) :
    wpAny (model P w) A (call (.type T) args) Q E s := by
  obtain ⟨c0, tl, m0⟩ := ft.mro
  have m1 := ft.made
  have m2 := ft.sub
  have m3 := ft.notType
  have m4 := ft.canCreate
  refine wpAny_call (codeAny_of_tree ?_)
  show wpAny _ _ (callAny (.type T) ⟨args, []⟩) _ _ _
  refine wpAny_pure ⟨Code.quiet_builtin _ (by decide +kernel), codeAny_builtin F.entry_type_call ?_⟩
  rw [Around.under_plain (weight_type_call_type T args []) rfl]
  repeat (any_goals (first | assumption | wp_step))
  refine codeAny_mono hnew ?_
  rintro (e | fl) s1 z
  · exact z
  · match fl, z with
    | .ret obj, z =>
      obtain ⟨i1, i2⟩ := hini obj s1 z
      have m5 := ft.init.lookup
      have m6 := ft.init.bind obj
      repeat (any_goals (first | assumption | wp_step))
      refine codeAny_mono i2 ?_
      rintro (e | fl2) s2 z2
      · exact z2
      · match fl2, z2 with
        | .ret r, z2 =>
          obtain ⟨rfl, q⟩ := z2
          repeat (any_goals (first | assumption | wp_step))
        | .next, z2 => exact False.elim z2
        | .brk, z2 => exact False.elim z2
        | .cont, z2 => exact False.elim z2
    | .next, z => exact False.elim z
    | .brk, z => exact False.elim z
    | .cont, z => exact False.elim z
/-- an empty set, as it is made -/
def newSetObj (w : World) : Obj := setObj #[] 0 (.fresh 0 0 (!w.params.followText "set-order"))
theorem txs_new {h : Heap} {a : Addr} (e : h.get? a = some (newSetObj w)) : TxS w h a [] := by
  refine ⟨#[], 0, _, e, ⟨fun x hx => by simp at hx, List.Pairwise.nil, by decide, rfl, List.Pairwise.nil, ?_⟩, rfl⟩
  show _ ∨ (!w.params.followText "set-order") = true
  cases w.params.followText "set-order"
  · exact .inr rfl
  · exact .inl rfl
theorem call_setL {l : Addr} {items : Array Value} {xs : List Str} {Q : Value → Shared → Prop} (hh : A.handled = none) (hl : s.heap.IsList l items) (hx : StrsAre items.toList xs) (hb : xs.length + 1 < scanBound)
    (h : ∀ (h' : Heap) (tk : Nat) (ks : List Str), TxS w h' s.heap.objs.size ks → ks.length ≤ xs.length → (∀ x, x ∈ ks ↔ x ∈ xs) → (∀ b o, s.heap.get? b = some o → h'.get? b = some o) → Q (.ref s.heap.objs.size) { s with heap := h', toks := tk }) :
    wpAny (model P w) A (call (.type "set") [.ref l]) Q E s := by
  generalize hN : s.heap.objs.size = N at h
  refine callType_two (Q1 := fun obj s1 => obj = .ref N ∧ s1 = { s with heap := s.heap.push (newSetObj w) }) F.called_set (F.typeCall_set_1 _) (code_set_led1 _ ⟨by rw [hN], rfl⟩) ?_
  rintro obj s1 ⟨rfl, rfl⟩
  have gN : (s.heap.push (newSetObj w)).get? N = some (newSetObj w) := by rw [← hN]; exact Heap.get?_push_size _ rfl
  have tN : Shared.TypeIs { s with heap := s.heap.push (newSetObj w) } (.ref N) "set" := ⟨_, gN, rfl⟩
  refine ⟨tN, codeAny_call_builtin F.called_set.init.plain F.entry_set_init (check_set_init_1 tN ?_)⟩
  obtain ⟨⟨oc, od, odt, osl⟩, ho, rfl, n0, rfl⟩ := hl
  have e1 : (s.heap.push (newSetObj w)).get? l = some { cls := .type "list", dict := od, data := .seq items n0, slots := osl } := Heap.get?_push_of_some _ ho
  have lN : l < N := by rw [← hN]; exact Heap.lt_size ho
  have e2 : (s.heap.push (newSetObj w)).IsList l items := ⟨_, e1, rfl, n0, rfl⟩
  have z1 : (s.heap.push (newSetObj w)).objs.size = N + 1 := by rw [Heap.size_push, hN]
  have g1 := F.sub_list_set
  have g2 := F.sub_list_frozenset
  have g3 : (Value.type "list" == Value.type "dict") = false := by decide
  unfold Builtin.«set.__init__» noKeywords Builtin.Frozenset.updateFrom
  generalize hpi : pyIter = pit
  wp_walk
  subst hpi
  refine wpAny_pyIter_list e2 (wpAny_bind (wpAny_runValue ?_))
  have sz : items.size = xs.length := by have := StrsAre.length hx; simpa using this
  rw [show ({ s with heap := s.heap.push (newSetObj w) } : Shared).heap.objs.size = N + 1 from z1]
  have at_ : ∀ (i : Nat) (v : Value), items[i]? = some v → ∃ x u, xs[i]? = some x ∧ v = Value.str x u := by
    intro i v e
    have hi : i < xs.length := by rw [← sz]; exact (Array.getElem?_eq_some_iff.mp e).1
    obtain ⟨u, q⟩ := hx.get i xs[i] (List.getElem?_eq_getElem hi)
    rw [Array.getElem?_toList, e] at q
    exact ⟨_, u, List.getElem?_eq_getElem hi, Option.some.inj q⟩
  have nI : l ≠ N + 1 := Nat.ne_of_lt (Nat.lt_succ_of_lt lN)
  have nN : N ∉ [N + 1, l] := by
    intro z
    rcases List.mem_cons.mp z with z | z
    · exact absurd z (Nat.ne_of_lt (Nat.lt_succ_self _))
    · exact absurd (List.mem_singleton.mp z) (Nat.ne_of_gt lN)
  have hdl : A.in1.in1.in1.handled = none := hh
  have new : ((s.heap.push (newSetObj w)).push { cls := .type "list_iterator", data := .fields #[.ref l, .int 0 0] }).get? N = some (newSetObj w) := Heap.get?_push_of_some _ gN
  have itr : ((s.heap.push (newSetObj w)).push { cls := .type "list_iterator", data := .fields #[.ref l, .int 0 0] }).get? (N + 1) = some { cls := .type "list_iterator", data := .fields #[.ref l, .int 0 0] } := by
    rw [← z1]
    exact Heap.get?_push_size _ rfl
  refine txs_loop (Walks.list hdl (N + 1) l nI items).toS nN sz (by rw [sz]; exact hb) at_ items.size 0 _ (Nat.sub_zero _) (Nat.zero_le _) ⟨⟨_, itr, rfl, rfl⟩, e2.push _⟩ ⟨[], txs_new new, Nat.le_refl _, fun x => by simp⟩ ?_
  intro s' ks mv hS hk hm
  refine wpAny_pure (wpAny_pure ?_)
  have e' := Moved.eq_with mv
  refine ⟨rfl, ?_⟩
  rw [e']
  refine h s'.heap s'.toks ks hS (by rw [← sz]; exact hk) hm fun b o e => mv.heap b o (fun z => ?_) (Heap.get?_push_of_some _ (Heap.get?_push_of_some _ e))
  have lb : b < N := by rw [← hN]; exact Heap.lt_size e
  rcases List.mem_cons.mp z with rfl | z
  · exact Nat.lt_irrefl _ lb
  · rw [List.mem_singleton.mp z] at lb
    exact absurd lb (Nat.not_lt.mpr (Nat.le_succ _))
theorem texts_of {w : World} : ∀ (l : List (Int × Value)), (∀ e ∈ l, Tx w e) → StrsAre (l.map (·.2)) (l.map fun e => txt e.2)
  | [], _ => .nil
  | e :: l, h => by
    obtain ⟨x, u, rfl⟩ := h _ List.mem_cons_self
    exact .cons x u (texts_of l fun e he => h e (List.mem_cons_of_mem _ he))
/-- sorted(a set of texts) -/
theorem sorted_setT {ks : List Str} {Q : Value → Shared → Prop} (R : TxS w s.heap a ks) (hh : A.handled = none) (few : ks.length < 64)
    (hQ : ∀ (s' : Shared) (p : Addr) (out : Array Value) (c : Nat) (ys : List Str), (∀ b o, s.heap.get? b = some o → s'.heap.get? b = some o) → s'.gens = s.gens → s'.os = s.os → s.heap.objs.size ≤ p →
      s'.heap.get? p = some (seqObj "list" out c) → StrsAre out.toList ys → ys.Perm ks → sortedS ys = true → Q (.ref p) s') : wpAny (model P w) A (call (.builtin "sorted") [.ref a]) Q E s := by
  obtain ⟨es, ep, t, ho, T, rfl⟩ := R
  refine Calls.call_function_entry kind_sorted plain_sorted entry_sorted (args_sorted1 _) ?_
  unfold Builtin.«sorted»
  refine wpAny_bind (m := checkCount "sorted" 1 1 _) (wpAny_pure (wpAny_bind (collect_set (A := A.in1) hh ⟨_, ho, rfl, rfl⟩ T.ft T.bd T.rs T.ld ?_)))
  intro s1 vs kp up1 hg1 ho1 pm
  obtain ⟨ws, hw, pw⟩ : ∃ ws, StrsAre vs ws ∧ ws.Perm (keysT es) := by
    refine ⟨vs.map txt, ?_, ?_⟩
    · have : ∀ l : List Value, (∀ v ∈ l, ∃ x u, v = Value.str x u) → StrsAre l (l.map txt) := by
        intro l
        induction l with
        | nil => exact fun _ => .nil
        | cons v l ih =>
          intro h
          obtain ⟨x, u, rfl⟩ := h _ List.mem_cons_self
          exact .cons x u (ih fun y hy => h y (List.mem_cons_of_mem _ hy))
      refine this vs fun v hv => ?_
      obtain ⟨e, he, rfl⟩ := List.mem_map.mp (pm.mem_iff.mp hv)
      obtain ⟨x, u, rfl⟩ := T.tx e he
      exact ⟨x, u, rfl⟩
    · have q := pm.map txt
      rw [List.map_map] at q
      exact q
  have nv : vs.length < 64 := by rw [StrsAre.length hw, pw.length_eq]; exact few
  refine wpAny_bind (wpAny_newList ?_ (Nat.le_of_lt (Nat.lt_trans nv (by decide))))
  have gL : (s1.heap.push (seqObj "list" vs.toArray 0)).get? s1.heap.objs.size = some (seqObj "list" vs.toArray 0) := Heap.get?_push_size _ rfl
  refine wpAny_bind (wpAny_holding (wpAny_call_entry slot_list_sort ⟨_, gL, rfl⟩ entry_list_sort (list_sort_treeK strKind_oneLt gL hw.keysOf (fun v1 v2 r e => keyKind_strs (by rw [← e]; exact hw)) nv ?_) (args_list_sort _)))
  intro st hp hsrt
  obtain ⟨ys, y1, y2, y3⟩ := sorted_out_str hw hp hsrt
  obtain ⟨c, gc⟩ := sortedHeap_at (vs := vs) (out := (arrOf st).map (·.2)) gL
  refine ⟨_, rfl, wpAny_pure ⟨_, rfl, hQ _ s1.heap.objs.size _ c ys (fun b o e => ?_) hg1 ho1 up1 gc y1 (y2.trans pw) y3⟩⟩
  have lt := Heap.lt_size (kp b o e)
  show (sortedHeap _ _ _ _).get? b = some o
  rw [sortedHeap_old (Nat.ne_of_lt lt) (by rw [Heap.size_push]; exact Nat.lt_succ_of_lt lt)]
  exact Heap.get?_push_of_some _ (kp b o e)
end
/-! as rules -/
def TxO (w : World) (a : Addr) (ks : List Str) : HO := .ext fun h => TxS w h a ks
def rSetT (K : PySem.W.Frag) (w : World) : List V → Hp → VK → Prop := fun vs H Q => ∃ (l : Addr) (xs : List Str), vs = [.ref l] ∧ SqL K H l (xs.map V.str) ∧ xs.length ≤ 1000 ∧ ∀ p ks, H p = none → ks.Nodup → ks.length ≤ xs.length → (∀ x, x ∈ ks ↔ x ∈ xs) → Q (.ref p) (upd H p (TxO w p ks))
def rSortT (w : World) : List V → Hp → VK → Prop := fun vs H Q => ∃ (p : Addr) (ks : List Str), vs = [.ref p] ∧ H p = some (TxO w p ks) ∧ ks.length < 64 ∧ ∀ q ys, H q = none → ys.Perm ks → sortedS ys = true → Q (.ref q) (upd H q (.lst (ys.map V.str)))
theorem TxS.nodup {w : World} {h : Heap} {a : Addr} {ks : List Str} (R : TxS w h a ks) : ks.Nodup := by
  obtain ⟨es, ep, t, ho, T, rfl⟩ := R
  exact T.nd
theorem txo_ok {P : Program} {w : World} {H : Hp} {h : Heap} {a : Addr} {ks : List Str} (R : TxS w h a ks) : ObjOk P w H h a (TxO w a ks) := by
  obtain ⟨es, ep, t, ho, r⟩ := id R
  exact ⟨R, ⟨_, ho⟩, fun h1 h2 z k => TxS.at z k⟩
section
variable {X : Cx}
theorem call_setT (hc : X.calm = true) : CallR X (.type "set") (rSetT X.K X.w) := by
  intro pins s σ H vs us Q I r h
  obtain ⟨l, xs, rfl, hq, hz, q⟩ := h
  obtain ⟨u, rfl, ru⟩ := vals1 r
  obtain rfl : u = Value.ref l := ru
  obtain ⟨its, rv, pl, _⟩ := I.list hq
  refine call_setL (I.ok.hd hc) pl.isList (xs := xs) (by simpa using rv.strs) (by show _ < 4096; omega) fun h' tk ks R hk hm kp => ?_
  exact ⟨.ref _, _, I.laid kp (Nat.le_refl _) (txo_ok R), rfl, q _ ks (I.hok.fresh (Nat.le_refl _)) R.nodup hk hm⟩
theorem cr_sortT (hc : X.calm = true) : CallR X (.builtin "sorted") (rSortT X.w) := by
  intro pins s σ H vs us Q I r h
  obtain ⟨p, ks, rfl, hp, h64, q⟩ := h
  obtain ⟨u, rfl, ru⟩ := vals1 r
  obtain rfl : u = Value.ref p := ru
  obtain ⟨R, _⟩ := I.hok p _ hp
  refine sorted_setT R (I.ok.hd hc) h64 fun s' p' out c ys kp hg ho hz gp hs pm srt => ?_
  have fr : H p' = none := I.hok.fresh hz
  have len : (ys.map V.str).length ≤ sizeLine := by
    rw [List.length_map, pm.length_eq]
    exact Nat.le_of_lt (Nat.lt_trans h64 (by decide))
  obtain ⟨h2, g2, d2, t2, o2⟩ := s'
  replace hg : g2 = s.gens := hg
  replace ho : o2 = s.os := ho
  subst hg
  subst ho
  have new : ObjOk X.prog X.w (upd H p' (.lst (ys.map V.str))) h2 p' (.lst (ys.map V.str)) := ⟨len, out.toList, c, vals_of_strs hs, gp⟩
  have J : Inv X pins σ (upd H p' (.lst (ys.map V.str))) { s with heap := h2, gens := s.gens, drawn := d2, toks := t2 } := I.call (ch := []) (.laid kp hz fr) (I.hok.laid kp hz new) I.bare fun _ z => nomatch z
  exact ⟨.ref p', _, J, rfl, q p' ys fr pm srt⟩
end
end Vx

namespace Vx
open PySem PySem.Spec PyProof.Rows L2
/-- an expression, and a word of what it gives -/
def tCutE (te : TE) : TE := fun σ H Q => ∃ P : V → Hp → Prop, te σ H P ∧ ∀ x H', P x H' → Q x H'
theorem pe_cut {X : Cx} {e : Expr} {te : TE} (he : PE X e te) : PE X e (tCutE te) := by
  constructor
  rintro pins s σ H Q I ⟨P, h, k⟩
  exact thn (he.run pins s σ H P I h) fun v s1 ⟨x, H', I', r, p⟩ => ⟨x, H', I', r, k x H' p⟩
/-! formulas as data -/
inductive Fml where
  | var (x : Str)
  | num (i : Int)
  | neg (a : Fml)
  | bin (w : Str) (a b : Fml)
namespace Fml
def d : Fml → PyData
  | .var x => .str x
  | .num i => .int i
  | .neg a => .tuple [.str "not", a.d]
  | .bin w a b => .tuple [.str w, a.d, b.d]
/-- how deep, a leaf is 0 -/
def dep : Fml → Nat
  | .var _ => 0
  | .num _ => 0
  | .neg a => a.dep + 1
  | .bin _ a b => max a.dep b.dep + 1
def lvs : Fml → Nat
  | .var _ => 1
  | .num _ => 1
  | .neg a => a.lvs
  | .bin _ a b => a.lvs + b.lvs
/-- the names at the leaves, from the left, each occurrence -/
def nms : Fml → List Str
  | .var x => [x]
  | .num _ => []
  | .neg a => a.nms
  | .bin _ a b => a.nms ++ b.nms
def cmb (w : Str) (x y : Int) : Int := if w = "plus" then x + y else if w = "minus" then x - y else if w = "or" then 1 - (1 - x) * (1 - y) else x * y
def val (q : Int) (g : Str → Int) : Fml → Int
  | .var x => g x % q
  | .num i => i % q
  | .neg a => (1 - a.val q g) % q
  | .bin w a b => cmb w (a.val q g) (b.val q g) % q
/-- an operator of two -/
def isW (w : Str) : Prop := w = "plus" ∨ w = "minus" ∨ w = "times" ∨ w = "and" ∨ w = "or"
theorem isW.ne {w : Str} (h : isW w) : w ≠ "not" := by
  rcases h with rfl | rfl | rfl | rfl | rfl <;> decide +kernel
/-- every word is an operator of two -/
def ok : Fml → Prop
  | .var _ => True
  | .num _ => True
  | .neg a => a.ok
  | .bin w a b => isW w ∧ a.ok ∧ b.ok
theorem nms_len : ∀ F : Fml, F.nms.length ≤ F.lvs
  | .var _ => Nat.le_refl _
  | .num _ => Nat.zero_le _
  | .neg a => nms_len a
  | .bin _ a b => by
    have h1 := nms_len a
    have h2 := nms_len b
    show (a.nms ++ b.nms).length ≤ a.lvs + b.lvs
    rw [List.length_append]
    omega
theorem lvs_pos : ∀ F : Fml, 0 < F.lvs
  | .var _ => Nat.one_pos
  | .num _ => Nat.one_pos
  | .neg a => lvs_pos a
  | .bin _ a b => Nat.add_pos_left (lvs_pos a) _
theorem val_rs {q : Int} (hq : 0 < q) (g : Str → Int) : ∀ F : Fml, 0 ≤ F.val q g ∧ F.val q g < q
  | .var x => ⟨Int.emod_nonneg _ (by omega), Int.emod_lt_of_pos _ hq⟩
  | .num i => ⟨Int.emod_nonneg _ (by omega), Int.emod_lt_of_pos _ hq⟩
  | .neg a => ⟨Int.emod_nonneg _ (by omega), Int.emod_lt_of_pos _ hq⟩
  | .bin w a b => ⟨Int.emod_nonneg _ (by omega), Int.emod_lt_of_pos _ hq⟩
/-- the polynomial's value, not reduced -/
def pol (g : Str → Int) : Fml → Int
  | .var x => g x
  | .num i => i
  | .neg a => 1 - a.pol g
  | .bin w a b => cmb w (a.pol g) (b.pol g)
theorem cmb_cg {q : Int} (w : Str) {a b c d : Int} (h : Cg q a b) (k : Cg q c d) : Cg q (cmb w a c) (cmb w b d) := by
  unfold cmb
  by_cases h1 : w = "plus"
  · rw [if_pos h1, if_pos h1]; exact h.add k
  rw [if_neg h1, if_neg h1]
  by_cases h2 : w = "minus"
  · rw [if_pos h2, if_pos h2]; exact h.sub k
  rw [if_neg h2, if_neg h2]
  by_cases h3 : w = "or"
  · rw [if_pos h3, if_pos h3]; exact (Cg.refl q 1).sub (((Cg.refl q 1).sub h).mul ((Cg.refl q 1).sub k))
  rw [if_neg h3, if_neg h3]; exact h.mul k
theorem val_cg (q : Int) (g : Str → Int) : ∀ F : Fml, Cg q (F.val q g) (F.pol g)
  | .var x => Cg.mod q _
  | .num i => Cg.mod q _
  | .neg a => (Cg.mod q _).trans ((Cg.refl q 1).sub (val_cg q g a))
  | .bin w a b => (Cg.mod q _).trans (cmb_cg w (val_cg q g a) (val_cg q g b))
theorem val_pol {q : Int} (hq : 0 < q) (g : Str → Int) (F : Fml) : F.val q g = F.pol g % q := by
  obtain ⟨h0, h1⟩ := val_rs hq g F
  have e : F.val q g % q = F.pol g % q := val_cg q g F
  rw [← e, Int.emod_eq_of_lt h0 h1]
theorem cmb_plus (x y : Int) : cmb "plus" x y = x + y := by unfold cmb; rw [if_pos rfl]
theorem cmb_minus (x y : Int) : cmb "minus" x y = x - y := by unfold cmb; rw [if_neg (by decide +kernel), if_pos rfl]
theorem cmb_or (x y : Int) : cmb "or" x y = 1 - (1 - x) * (1 - y) := by unfold cmb; rw [if_neg (by decide +kernel), if_neg (by decide +kernel), if_pos rfl]
theorem cmb_times (x y : Int) : cmb "times" x y = x * y := by unfold cmb; rw [if_neg (by decide +kernel), if_neg (by decide +kernel), if_neg (by decide +kernel)]
theorem cmb_and (x y : Int) : cmb "and" x y = x * y := by unfold cmb; rw [if_neg (by decide +kernel), if_neg (by decide +kernel), if_neg (by decide +kernel)]
/-- a leaf, or a word and one or two operands -/
theorem view (F : Fml) : (∃ x, F = .var x) ∨ (∃ i, F = .num i) ∨ (∃ a, F = .neg a) ∨ ∃ w a b, F = .bin w a b := by
  cases F with
  | var x => exact .inl ⟨x, rfl⟩
  | num i => exact .inr (.inl ⟨i, rfl⟩)
  | neg a => exact .inr (.inr (.inl ⟨a, rfl⟩))
  | bin w a b => exact .inr (.inr (.inr ⟨w, a, b, rfl⟩))
end Fml
theorem dp_str {K : PySem.W.Frag} {H : Hp} {v : V} {x : Str} (h : Dp K H v (.str x)) : v = .str x := by cases h; rfl
theorem dp_tup2 {K : PySem.W.Frag} {H : Hp} {v : V} {d e : PyData} (h : Dp K H v (.tuple [d, e])) : ∃ (a : Addr) (u u2 : V), v = .ref a ∧ SqT K H a [u, u2] ∧ Dp K H u d ∧ Dp K H u2 e := by
  obtain ⟨a, xs, rfl, hs, hd⟩ := dp_tuple h
  cases hd with
  | cons h1 hd =>
    cases hd with
    | cons h2 hd =>
      cases hd
      exact ⟨a, _, _, rfl, hs, h1, h2⟩
theorem dp_tup3 {K : PySem.W.Frag} {H : Hp} {v : V} {d e f : PyData} (h : Dp K H v (.tuple [d, e, f])) : ∃ (a : Addr) (u u2 u3 : V), v = .ref a ∧ SqT K H a [u, u2, u3] ∧ Dp K H u d ∧ Dp K H u2 e ∧ Dp K H u3 f := by
  obtain ⟨a, xs, rfl, hs, hd⟩ := dp_tuple h
  cases hd with
  | cons h1 hd =>
    cases hd with
    | cons h2 hd =>
      cases hd with
      | cons h3 hd =>
        cases hd
        exact ⟨a, _, _, _, rfl, hs, h1, h2, h3⟩
theorem dp_neg {K : PySem.W.Frag} {H : Hp} {v : V} {F : Fml} (h : Dp K H v (Fml.neg F).d) : ∃ (a : Addr) (u : V), v = .ref a ∧ SqT K H a [.str "not", u] ∧ Dp K H u F.d := by
  rw [Fml.d] at h
  obtain ⟨a, u, u2, rfl, hs, h1, h2⟩ := dp_tup2 h
  have e := dp_str h1
  rw [e] at hs
  exact ⟨a, u2, rfl, hs, h2⟩
theorem dp_bin {K : PySem.W.Frag} {H : Hp} {v : V} {w : Str} {F G : Fml} (h : Dp K H v (Fml.bin w F G).d) : ∃ (a : Addr) (u u2 : V), v = .ref a ∧ SqT K H a [.str w, u, u2] ∧ Dp K H u F.d ∧ Dp K H u2 G.d := by
  rw [Fml.d] at h
  obtain ⟨a, u, u2, u3, rfl, hs, h1, h2, h3⟩ := dp_tup3 h
  have e := dp_str h1
  rw [e] at hs
  exact ⟨a, u2, u3, rfl, hs, h2, h3⟩
theorem dpvar (K : PySem.W.Frag) (H : Hp) (x : Str) : Dp K H (.str x) (Fml.var x).d := .str x
theorem dpnum (K : PySem.W.Frag) (H : Hp) (i : Int) : Dp K H (.int i) (Fml.num i).d := .int i
theorem dpneg {K : PySem.W.Frag} {H : Hp} {t : Addr} {u : V} {a : Fml} (h : SqT K H t [.str "not", u]) (hu : Dp K H u a.d) : Dp K H (.ref t) (Fml.neg a).d := by
  rw [Fml.d]
  exact .tup h (.cons (.str _) (.cons hu .nil))
theorem dpbin {K : PySem.W.Frag} {H : Hp} {t : Addr} {w : Str} {u v : V} {a b : Fml} (h : SqT K H t [.str w, u, v]) (hu : Dp K H u a.d) (hv : Dp K H v b.d) : Dp K H (.ref t) (Fml.bin w a b).d := by
  rw [Fml.d]
  exact .tup h (.cons (.str _) (.cons hu (.cons hv .nil)))
/-- a formula's tuple is made -/
theorem new_neg {K : PySem.W.Frag} {H : Hp} {t : Addr} {u : V} {a : Fml} (n : H t = none) (hu : Dp K H u a.d) : Same H (upd H t (.tup [.str "not", u])) ∧ Dp K (upd H t (.tup [.str "not", u])) (.ref t) (Fml.neg a).d :=
  ⟨same_new n _, dpneg (SqT.of upd_same) (dp_same (same_new n _) _ _ hu)⟩
theorem new_bin {K : PySem.W.Frag} {H : Hp} {t : Addr} {w : Str} {u v : V} {a b : Fml} (n : H t = none) (hu : Dp K H u a.d) (hv : Dp K H v b.d) : Same H (upd H t (.tup [.str w, u, v])) ∧ Dp K (upd H t (.tup [.str w, u, v])) (.ref t) (Fml.bin w a b).d :=
  ⟨same_new n _, dpbin (SqT.of upd_same) (dp_same (same_new n _) _ _ hu) (dp_same (same_new n _) _ _ hv)⟩
/-! dicts with written keys -/
theorem putK_fresh {kvs : List (Key × V)} {k : Key} {v : V} (h : k ∉ kvs.map (·.1)) : putK kvs k v = kvs ++ [(k, v)] := by
  unfold putK
  rw [if_neg]
  intro c
  obtain ⟨p, hp, e⟩ := List.any_eq_true.mp c
  exact h (List.mem_map.mpr ⟨p, hp, of_decide_eq_true e⟩)
theorem mergeK_app : ∀ (more acc : List (Key × V)), ((acc ++ more).map (·.1)).Nodup → mergeK acc more = acc ++ more
  | [], acc, _ => by rw [List.append_nil]; rfl
  | (k, v) :: r, acc, h => by
    have e : acc ++ (k, v) :: r = (acc ++ [(k, v)]) ++ r := by rw [List.append_assoc]; rfl
    have n : k ∉ acc.map (·.1) := fun z => by
      rw [List.map_append, List.map_cons] at h
      exact (List.nodup_append.mp h).2.2 k z k List.mem_cons_self rfl
    show mergeK (putK acc k v) r = _
    rw [putK_fresh n, mergeK_app r (acc ++ [(k, v)]) (by rw [← e]; exact h), e]
theorem mergeK_all {kvs : List (Key × V)} (h : (kvs.map (·.1)).Nodup) : mergeK [] kvs = kvs := mergeK_app kvs [] h
theorem valN {a b : Str} {v : V} {r : List (Key × V)} {u : V} (h : a ≠ b) (k : valV r (.inr b) = some u) : valV ((.inr a, v) :: r) (.inr b) = some u := (valV_neg fun z => h (Sum.inr.inj z)).trans k
theorem val1 {a : Str} {v : V} {r : List (Key × V)} : valV ((.inr a, v) :: r) (.inr a : Key) = some v := valV_pos rfl
/-- a loop over a locked dict's keys -/
theorem for_keys {d : Addr} {o : Obj} {kvs : List (Key × V)} {g : TG} {tb : TS} {D : Ends} {σ : L2.St} {H : Hp} (Pv : Nat → L2.St → Hp → Prop) (h0 : Pv 0 σ H) (hl : ∀ i σ H, i ≤ kvs.length → Pv i σ H → H d = some (.frz o (.dK kvs)))
    (hs : ∀ (i : Nat) (k : Key) (v : V) (σ : L2.St) (H : Hp), kvs[i]? = some (k, v) → Pv i σ H → g (kV k) σ H fun σ2 H2 => tb { D with nx := Pv (i + 1), ct := Pv (i + 1), bk := D.nx } σ2 H2) (hd : ∀ σ H, Pv kvs.length σ H → D.nx σ H) :
    ForOf (Itk d o kvs) g tb D σ H := by
  refine ⟨fun i m ρ h => m = kvs.length - i ∧ i ≤ kvs.length ∧ Pv i ρ h, ⟨_, rfl, Nat.zero_le _, h0⟩, ?_⟩
  rintro i m ρ h ⟨rfl, hi, p⟩
  have q := hl i ρ h hi p
  by_cases l : i < kvs.length
  · refine .inr ⟨⟨q, l⟩, Pv (i + 1), fun ρ' h' p' => ⟨kvs.length - (i + 1), by omega, rfl, l, p'⟩, ?_⟩
    rintro z h' ⟨rfl, k, v, e, rfl⟩
    exact hs i k v ρ h' e p
  · obtain rfl : i = kvs.length := by omega
    exact .inl ⟨⟨q, Nat.le_refl _⟩, hd ρ h p⟩
/-! a comprehension of two fors that lays lists end to end -/
theorem cutV_drop (xs : List V) (k : Nat) : cutV xs (some (k : Int)) none = xs.drop k := by
  unfold cutV
  rw [HT.sIx_none, HT.sIx_nat]
  by_cases h : k ≤ xs.length
  · rw [Nat.min_eq_left h, List.take_of_length_le (by rw [List.length_drop]; exact Nat.le_refl _)]
  · rw [Nat.min_eq_right (by omega), List.drop_length, List.drop_of_length_le (by omega), List.take_nil]
/-- the first k lists, end to end -/
def flatN (ys : Nat → List V) : Nat → List V
  | 0 => []
  | k + 1 => flatN ys k ++ ys k
theorem lc2_flat {K : PySem.W.Frag} {a : Addr} {xs : List V} {g : TG} {wi1 : TI} {j2 : Nat} {vs vs1 : List Nat} {σ : L2.St} {H1 : Hp} {D : Addr} {Qd : Hp → Prop} (ys : Nat → List V) (hD : H1 D = none) (hs0 : SqT K H1 a xs)
    (big : ∀ k, k ≤ xs.length → (flatN ys k).length ≤ 100000)
    (hs : ∀ i x H', xs[i]? = some x → Same H1 H' → ∀ C : L2.St → Hp → Prop, (∀ σ2, wipe σ2 vs = wipe σ vs → (∀ y, wipe (((wipe σ2 vs1).set j2 (some y))) vs1 = wipe σ2 vs1 ∧ ((wipe σ2 vs1).set j2 (some y))[j2]? = some (some y)) →
        (∀ R : It → Hp → Prop, (∀ (L : Addr) (H'' : Hp), Same H' H'' → H' L = none → H'' L = some (.lst (ys i)) → R (Itl K L) H'') → wi1 σ2 H' R) → C σ2 H') → g x (wipe σ vs) H' C)
    (hd : ∀ H', Same H1 H' → H' D = some (.lst (flatN ys xs.length)) → Qd H') :
    ∃ W : Nat → Nat → Hp → Prop, (∃ m, W 0 m (upd H1 D (.lst []))) ∧ ∀ i m H, W i m H →
      ((Itt K a).stop i H ∧ Qd H) ∨ ((Itt K a).go i H ∧ ∃ Nx : Hp → Prop, (∀ H', Nx H' → ∃ m', m' < m ∧ W (i + 1) m' H') ∧ ∀ x H', (Itt K a).yld i H x H' → g x (wipe σ vs) H' fun σ2 H2 => wipe σ2 vs = wipe σ vs ∧ tYes σ2 H2 fun b H3 =>
        if b = true then wi1 σ2 H3 fun J1 H4 => ∃ W1 : Nat → Nat → Hp → Prop, (∃ m, W1 0 m H4) ∧ ∀ j k H, W1 j k H →
          (J1.stop j H ∧ Nx H) ∨ (J1.go j H ∧ ∃ Nx1 : Hp → Prop, (∀ H', Nx1 H' → ∃ k', k' < k ∧ W1 (j + 1) k' H') ∧ ∀ x H', J1.yld j H x H' → gName j2 x (wipe σ2 vs1) H' fun σ3 H5 => wipe σ3 vs1 = wipe σ2 vs1 ∧ tYes σ3 H5 fun b H6 =>
            if b = true then tVar j2 σ3 H6 fun y H7 => ∃ acc, H7 D = some (.lst acc) ∧ acc.length < sizeLine ∧ Nx1 (upd H7 D (.lst (acc ++ [y]))) else Nx1 H6)
        else Nx H3) := by
  refine ⟨fun i m H => m = xs.length - i ∧ i ≤ xs.length ∧ Same H1 H ∧ H D = some (.lst (flatN ys i)), ⟨_, rfl, Nat.zero_le _, same_new hD _, upd_same⟩, ?_⟩
  rintro i m H ⟨rfl, hi, sm, eD⟩
  have q := Same.seqT sm hs0
  by_cases l : i < xs.length
  rotate_left
  · obtain rfl : i = xs.length := by omega
    exact .inl ⟨⟨xs, q, Nat.le_refl _⟩, hd H sm eD⟩
  refine .inr ⟨⟨xs, xs[i], q, by simp [l]⟩, fun H' => Same H1 H' ∧ H' D = some (.lst (flatN ys (i + 1))), fun H' p => ⟨xs.length - (i + 1), by omega, rfl, l, p.1, p.2⟩, ?_⟩
  rintro x _ ⟨rfl, hx⟩
  refine hs i x _ (hx xs q) sm _ fun σ2 e2 hj hw => ⟨e2, ?_⟩
  unfold tYes
  dsimp only
  rw [if_pos rfl]
  refine hw _ fun L H2 s2 fL eL => ?_
  have nL : L ≠ D := fun z => by rw [z, eD] at fL; cases fL
  have bg := big (i + 1) l
  refine ⟨fun j k H => k = (ys i).length - j ∧ j ≤ (ys i).length ∧ Same H1 H ∧ H L = some (.lst (ys i)) ∧ H D = some (.lst (flatN ys i ++ (ys i).take j)), ⟨_, rfl, Nat.zero_le _, sm.trans s2, eL, by rw [List.take_zero, List.append_nil]; exact s2 _ _ eD⟩, ?_⟩
  rintro j k H3 ⟨rfl, hj2, s3, eL3, eD3⟩
  by_cases l2 : j < (ys i).length
  rotate_left
  · obtain rfl : j = (ys i).length := by omega
    rw [List.take_length] at eD3
    exact .inl ⟨⟨ys i, SqL.of eL3, Nat.le_refl _⟩, s3, eD3⟩
  refine .inr ⟨⟨ys i, (ys i)[j], SqL.of eL3, by simp [l2]⟩, fun H' => Same H1 H' ∧ H' L = some (.lst (ys i)) ∧ H' D = some (.lst (flatN ys i ++ (ys i).take (j + 1))), fun H' p => ⟨(ys i).length - (j + 1), by omega, rfl, l2, p⟩, ?_⟩
  rintro y _ ⟨rfl, hy⟩
  obtain ⟨w1, w2⟩ := hj y
  refine ⟨w1, ?_⟩
  rw [if_pos rfl]
  refine ⟨y, w2, _, eD3, ?_, ?_⟩
  · have : (flatN ys i ++ (ys i).take j).length ≤ (flatN ys (i + 1)).length := by
      show _ ≤ (flatN ys i ++ ys i).length
      rw [List.length_append, List.length_append, List.length_take]
      omega
    exact Nat.lt_of_le_of_lt (Nat.le_trans this bg) (by decide)
  · refine ⟨same_mut s3 hD, by rw [upd_ne nL]; exact eL3, ?_⟩
    have ey : (ys i)[j]? = some y := hy _ (SqL.of eL3)
    rw [upd_same, List.take_add_one, ey, List.append_assoc]
    rfl
end Vx

namespace Vx
open PySem PySem.Spec PyProof.Rows L2
/-! a dict of texts and ints is shown -/
def kD : Key → PyData
  | .inl i => .int i
  | .inr x => .str x
def vD : V → PyData
  | .int i => .int i
  | _ => .none
def dkD (kvs : List (Key × V)) : PyData := .dict (kvs.map fun kv => (kD kv.1, vD kv.2))
/-- short names, small numbers -/
def Plain (kv : Key × V) : Prop := ∃ (x : Str) (i : Int), kv = (.inr x, .int i) ∧ (∀ c ∈ x.cps.toList, c < 16 ^ 8) ∧ x.cps.size ≤ 100 ∧ i.natAbs < 10 ^ 12
theorem plain_showable : ∀ kvs : List (Key × V), (∀ kv ∈ kvs, Plain kv) → PyData.showableKv (kvs.map fun kv => (kD kv.1, vD kv.2)) = true
  | [], _ => rfl
  | kv :: r, h => by
    obtain ⟨x, i, rfl, _, _, hi⟩ := h kv List.mem_cons_self
    have ih := plain_showable r fun q hq => h q (List.mem_cons_of_mem _ hq)
    show (true && decide (i.natAbs.log2 < 1920) && PyData.showableKv _) = true
    have l : i.natAbs.log2 < 40 := by
      by_cases e : i.natAbs = 0
      · rw [e]; decide
      · exact (Nat.log2_lt e).mpr (Nat.lt_trans hi (by decide))
    rw [ih, decide_eq_true (Nat.lt_of_lt_of_le l (by decide))]
    rfl
theorem plain_short : ∀ kvs : List (Key × V), (∀ kv ∈ kvs, Plain kv) → PyData.leavesShortKv 13 (kvs.map fun kv => (kD kv.1, vD kv.2)) = true ∧ PyData.bulkKv (kvs.map fun kv => (kD kv.1, vD kv.2)) ≤ 102 * kvs.length ∧ PyData.depthKv (kvs.map fun kv => (kD kv.1, vD kv.2)) = 0
  | [], _ => ⟨rfl, Nat.zero_le _, rfl⟩
  | kv :: r, h => by
    obtain ⟨x, i, rfl, hc, hs, hi⟩ := h kv List.mem_cons_self
    obtain ⟨h1, h2, h3⟩ := plain_short r fun q hq => h q (List.mem_cons_of_mem _ hq)
    refine ⟨?_, ?_, ?_⟩
    · show ((x.cps.toList.all fun c => decide (c < 16 ^ 8)) && decide ((PyData.shown (.int i)).length ≤ 13) && PyData.leavesShortKv 13 _) = true
      rw [h1, decide_eq_true (PyData.shown_int_le hi), List.all_eq_true.mpr fun c hcm => decide_eq_true (hc c hcm)]
      rfl
    · show x.cps.size + 0 + 2 + PyData.bulkKv _ ≤ 102 * (r.length + 1)
      omega
    · show max (max 0 0) (PyData.depthKv _) = 0
      rw [h3]; rfl
theorem plain_reads {P : Program} {w : World} {h : Heap} : ∀ {kvs : List (Key × V)} {vs : List (Key × Value)} {es : List DictEntry}, (∀ kv ∈ kvs, Plain kv) → KV kvs vs → Pairs (mixKind P w) es vs →
    ReadsAll h (es.map (·.key)) ((kvs.map fun kv => (kD kv.1, vD kv.2)).map (·.1)) [] ∧ ReadsAll h (es.map (·.val)) ((kvs.map fun kv => (kD kv.1, vD kv.2)).map (·.2)) []
  | [], _, _, _, .nil, .nil => ⟨.nil, .nil⟩
  | kv :: kvs, kw :: vs, e :: es, hp, .cons r rr, .cons a b c => by
    obtain ⟨x, i, rfl, _⟩ := hp _ List.mem_cons_self
    obtain ⟨h1, h2⟩ := plain_reads (fun q hq => hp q (List.mem_cons_of_mem _ hq)) rr c
    obtain ⟨r1, r2⟩ := r
    replace a : keyIs kw.1 e.key = true := a
    rw [← r1] at a
    obtain ⟨t, u⟩ : (∃ t, e.key = Value.str x t) ∧ ∃ t, e.val = Value.int i t := by
      constructor
      · rcases keyIs_shape a with ⟨j, t, q, _⟩ | ⟨y, t, q, q2⟩
        · cases q
        · cases q
          exact ⟨t, q2⟩
      · obtain ⟨t, q⟩ : ∃ t, kw.2 = Value.int i t := r2
        exact ⟨t, b.trans q⟩
    obtain ⟨t, et⟩ := t
    obtain ⟨u, eu⟩ := u
    refine ⟨?_, ?_⟩
    · show ReadsAll h (e.key :: _) (PyData.str x :: _) ([] ++ [])
      rw [et]
      exact .cons (.str x t) h1
    · show ReadsAll h (e.val :: _) (PyData.int i :: _) ([] ++ [])
      rw [eu]
      exact .cons (.int i u) h2
/-- repr(a dict of short names and small numbers) -/
def rReprDK : List V → Hp → VK → Prop := fun xs H Q => ∃ a kvs, xs = [.ref a] ∧ H a = some (.dK kvs) ∧ (∀ kv ∈ kvs, Plain kv) ∧ kvs.length ≤ 1000 ∧ Q (.str (dkD kvs).shown) H
theorem call_reprDK {X : Cx} (hg : X.A.guards = some []) (hu : X.A.units + 64 < cLine) : CallR X (.builtin "repr") rReprDK := by
  intro pins s σ H xs us Q I r h
  obtain ⟨a, kvs, rfl, ha, hp, hl, q⟩ := h
  obtain ⟨u, rfl, ru⟩ := vals1 r
  obtain rfl : u = Value.ref a := ru
  obtain ⟨_, ns, vs, rk, o, es, ep, ho, hx, hd, _, hpr, _⟩ := I.hok a _ ha
  obtain ⟨r1, r2⟩ := plain_reads (h := s.heap) hp rk hpr
  have rd : Reads s.heap (.ref a) (dkD kvs) (a :: [] ++ []) := .dict ho hx.1 hd r1 r2
  obtain ⟨p1, p2, p3⟩ := plain_short kvs hp
  have dep : (dkD kvs).depth = 1 := by show PyData.depthKv _ + 1 = 1; rw [p3]
  refine repr_of_reads' rd (plain_showable kvs hp) (fun _ => ?_) hg (by rw [dep]; omega) (fun _ _ e => e) (fun h' u tk hk => ⟨.str (dkD kvs).shown, H, I.kept hk, ⟨u, rfl⟩, q⟩) ?_
  · intro z
    rw [List.append_nil, List.mem_singleton] at z
    rw [← z] at ns
    exact absurd ns (by decide)
  · exact PyData.shown_fits_bulk (B := 13) (by decide) (by decide) p1 (Nat.le_trans p2 (by omega))
end Vx
namespace Vx
open PySem PySem.Spec PyProof.Rows L2
/-! the names in order are one list -/
theorem str_ext {a b : Str} (h : a.cps.toList = b.cps.toList) : a = b := by
  cases a with
  | mk x => cases b with
    | mk y => exact congrArg Str.mk (Array.toList_inj.mp h)
theorem rising_all : ∀ (l : List Str) (p : Str), risingS p l = true → (∀ x ∈ l, p.cps.toList ≤ x.cps.toList) ∧ l.Pairwise fun a b => a.cps.toList ≤ b.cps.toList
  | [], _, _ => ⟨(fun x h => nomatch h), List.Pairwise.nil⟩
  | y :: l, p, h => by
    obtain ⟨h1, h2⟩ := (Bool.and_eq_true _ _).mp (show (!ltCps y.cps.toList p.cps.toList && risingS y l) = true from h)
    obtain ⟨i1, i2⟩ := rising_all l y h2
    have le : p.cps.toList ≤ y.cps.toList := by
      rw [ltCps_eq] at h1
      exact List.not_lt.mp (of_decide_eq_false (by simpa using h1))
    refine ⟨fun x hx => ?_, .cons (fun x hx => i1 x hx) i2⟩
    rcases List.mem_cons.mp hx with rfl | hx
    · exact le
    · exact List.le_trans le (i1 x hx)
theorem sorted_pw : ∀ l : List Str, sortedS l = true → l.Pairwise fun a b => a.cps.toList ≤ b.cps.toList
  | [], _ => List.Pairwise.nil
  | y :: l, h => by
    obtain ⟨i1, i2⟩ := rising_all l y h
    exact .cons (fun x hx => i1 x hx) i2
theorem sorted_eq : ∀ {l m : List Str}, l.Nodup → m.Nodup → (l.Pairwise fun a b => a.cps.toList ≤ b.cps.toList) → (m.Pairwise fun a b => a.cps.toList ≤ b.cps.toList) → (∀ x, x ∈ l ↔ x ∈ m) → l = m
  | [], [], _, _, _, _, _ => rfl
  | [], y :: m, _, _, _, _, h => absurd ((h y).mpr List.mem_cons_self) (fun z => nomatch z)
  | y :: l, [], _, _, _, _, h => absurd ((h y).mp List.mem_cons_self) (fun z => nomatch z)
  | x :: l, y :: m, n1, n2, p1, p2, h => by
    obtain ⟨a1, a2⟩ := List.nodup_cons.mp n1
    obtain ⟨b1, b2⟩ := List.nodup_cons.mp n2
    obtain ⟨c1, c2⟩ := List.pairwise_cons.mp p1
    obtain ⟨d1, d2⟩ := List.pairwise_cons.mp p2
    have e : x = y := by
      rcases List.mem_cons.mp ((h x).mp List.mem_cons_self) with e | hx
      · exact e
      · rcases List.mem_cons.mp ((h y).mpr List.mem_cons_self) with e | hy
        · exact e.symm
        · exact str_ext (List.le_antisymm (c1 y hy) (d1 x hx))
    subst e
    rw [sorted_eq a2 b2 c2 d2 fun z => ?_]
    constructor
    · intro hz
      rcases List.mem_cons.mp ((h z).mp (List.mem_cons_of_mem _ hz)) with rfl | q
      · exact absurd hz a1
      · exact q
    · intro hz
      rcases List.mem_cons.mp ((h z).mpr (List.mem_cons_of_mem _ hz)) with rfl | q
      · exact absurd hz b1
      · exact q
end Vx

namespace Vx
open PySem PySem.Spec PyProof.Rows L2
/-! formulas that are drawn -/
def nameB (x : Str) : Bool := decide (0 < x.cps.size) && decide (x.cps.size ≤ 6) && x.cps.toList.all fun c => decide (97 ≤ c) && decide (c ≤ 122)
def Fml.lok (q : Int) : Fml → Prop
  | .var x => nameB x = true
  | .num i => 0 ≤ i ∧ i < q
  | .neg a => a.lok q
  | .bin _ a b => a.lok q ∧ b.lok q
theorem Fml.lok_nms {q : Int} : ∀ {F : Fml}, F.lok q → ∀ x ∈ F.nms, nameB x = true
  | .var y, h, x, hx => by rw [List.mem_singleton.mp hx]; exact h
  | .num i, _, x, hx => nomatch hx
  | .neg a, h, x, hx => Fml.lok_nms (F := a) h x hx
  | .bin _ a b, h, x, hx => by
    rcases List.mem_append.mp hx with z | z
    · exact Fml.lok_nms h.1 x z
    · exact Fml.lok_nms h.2 x z
theorem nameB_low {x : Str} (h : nameB x = true) : (∀ c ∈ x.cps.toList, c < 16 ^ 8) ∧ x.cps.size ≤ 100 := by
  unfold nameB at h
  simp only [Bool.and_eq_true, decide_eq_true_eq, List.all_eq_true] at h
  obtain ⟨⟨h1, h2⟩, h3⟩ := h
  exact ⟨fun c hc => Nat.lt_of_le_of_lt (h3 c hc).2 (by decide), by omega⟩
mutual
theorem Fml.noL : ∀ F : Fml, Vx.noL F.d = true
  | .var x => rfl
  | .num i => rfl
  | .neg a => by
    rw [Fml.d]
    show (true && (Vx.noL a.d && true)) = true
    rw [Fml.noL a]; rfl
  | .bin w a b => by
    rw [Fml.d]
    show (true && (Vx.noL a.d && (Vx.noL b.d && true))) = true
    rw [Fml.noL a, Fml.noL b]; rfl
end
/-- how many tuples -/
def Fml.tps : Fml → Nat
  | .var _ => 0
  | .num _ => 0
  | .neg a => a.tps + 1
  | .bin _ a b => a.tps + b.tps + 1
theorem tps_zero {F : Fml} (h : F.dep = 0) : F.tps = 0 := by cases F <;> first | rfl | (rw [Fml.dep] at h; omega)
/-- the pen's list and the counter's list may have changed -/
structure Dn (p t : Addr) (H H' : Hp) : Prop where
  but : ∀ b o, b ≠ p → b ≠ t → H b = some o → H' b = some o
  pen : ∀ c i m, H p = some (.lst [.ref c, .int i, .int m]) → ∃ j k, H' p = some (.lst [.ref c, .int j, .int k])
theorem Dn.refl (p t : Addr) (H : Hp) : Dn p t H H := ⟨fun _ _ _ _ h => h, fun c i m h => ⟨i, m, h⟩⟩
theorem Dn.trans {p t : Addr} {H H1 H2 : Hp} (a : Dn p t H H1) (b : Dn p t H1 H2) : Dn p t H H2 := ⟨fun c o n m h => b.but c o n m (a.but c o n m h), fun c i m h => by
  obtain ⟨j, k, h1⟩ := a.pen c i m h
  exact b.pen c j k h1⟩
theorem Dn.dr {p t : Addr} {H H' : Hp} (d : Dr p H H') : Dn p t H H' := ⟨fun b o n _ h => d.1 b o n h, d.2⟩
theorem Dn.same {p t : Addr} {H H' : Hp} (s : Same H H') : Dn p t H H' := .dr (.same s)
theorem Dn.put {p t : Addr} {H : Hp} {o : HO} (n : t ≠ p) : Dn p t H (upd H t o) := ⟨fun b u _ n2 h => by rw [upd_ne n2]; exact h, fun c i m h => ⟨i, m, by rw [upd_ne (Ne.symm n)]; exact h⟩⟩
theorem Dn.data {K : PySem.W.Frag} {p t : Addr} {H H' : Hp} {d : PyData} {v : V} (n : Dn p t H H') (cp : Chg H p) (ct : Chg H t) (hd : noL d = true) (h : Dp K H v d) : Dp K H' v d := by
  let Hm : Hp := fun b => if b = t then H b else H' b
  have b1 : But p H Hm := fun b o nb hb => by
    show (if b = t then H b else H' b) = some o
    by_cases e : b = t
    · rw [if_pos e]; exact hb
    · rw [if_neg e]; exact n.but b o nb e hb
  have b2 : But t Hm H' := fun b o nb hb => by
    have : (if b = t then H b else H' b) = some o := hb
    rw [if_neg nb] at this
    exact this
  have c2 : Chg Hm t := by
    rcases ct with ⟨xs, e⟩ | ⟨kvs, e⟩
    · exact .inl ⟨xs, (if_pos rfl).trans e⟩
    · exact .inr ⟨kvs, (if_pos rfl).trans e⟩
  exact dp_but c2 b2 d v hd (dp_but cp b1 d v hd h)
theorem Pen.dn {K : PySem.W.Frag} {p t : Addr} {H H' : Hp} {k k' : Int} (h : Pen K H p) (n : Dn p t H H') (e : H t = some (.lst [.int k])) (e' : H' t = some (.lst [.int k'])) : Pen K H' p := by
  obtain ⟨c, ns, i, m, h1, h2, h3⟩ := h
  obtain ⟨j, l, h4⟩ := n.pen c i m h1
  by_cases z : c = t
  · subst z
    rcases h2 with (h2 | ⟨o, h2⟩) | h2
    · exact ⟨c, [k'], j, l, h4, SqL.of e', h3⟩
    · rw [e] at h2; cases h2
    · exact ⟨c, ns, j, l, h4, .inr h2, h3⟩
  · refine ⟨c, ns, j, l, h4, ?_, h3⟩
    rcases h2 with (h2 | ⟨o, h2⟩) | h2
    · exact .inl (.inl (n.but _ _ h3 z h2))
    · exact .inl (.inr ⟨o, n.but _ _ h3 z h2⟩)
    · exact .inr h2
theorem pen_ne {K : PySem.W.Frag} {H : Hp} {p t : Addr} {k : Int} (h : Pen K H p) (e : H t = some (.lst [.int k])) : t ≠ p := fun z => by
  obtain ⟨c, ns, i, m, h1, _⟩ := h
  rw [← z, e] at h1
  cases h1
theorem at_memV {xs : List V} {i : Int} (h0 : 0 ≤ i) (h : i < xs.length) : ∃ v ∈ xs, atI xs i = some v := by
  have hk : i.toNat < xs.length := by omega
  have e : i = ((i.toNat : Nat) : Int) := by omega
  refine ⟨xs[i.toNat], List.getElem_mem hk, ?_⟩
  generalize hg : xs[i.toNat] = v
  rw [e]
  subst hg
  exact atI_nat (List.getElem?_eq_getElem hk)
end Vx
namespace Vx
open PySem PySem.Spec PyProof.Rows L2
/-! assignments that are drawn -/
theorem pairs_of {K : PySem.W.Frag} {H : Hp} {Pk : Nat → Str → Int → Prop} : ∀ {acc : List V} {ds : List PyData} (o : Nat), DpAll K H acc ds → (∀ (k : Nat) d, ds[k]? = some d → ∃ x i, d = .tuple [.str x, .int i] ∧ Pk (o + k) x i) →
    ∃ (ps : List Addr) (kvs : List (Key × V)), acc = ps.map V.ref ∧ Paired (fun p (kv : Key × V) => SqT K H p [kV kv.1, kv.2]) ps kvs ∧ kvs.length = ds.length ∧ ∀ (k : Nat) kv, kvs[k]? = some kv → ∃ x i, kv = (.inr x, .int i) ∧ Pk (o + k) x i
  | [], [], _, _, _ => ⟨[], [], rfl, .nil, rfl, fun k kv h => by simp at h⟩
  | v :: acc, d :: ds, o, .cons h1 h2, hk => by
    obtain ⟨x, i, rfl, p0⟩ := hk 0 d rfl
    obtain ⟨ps, kvs, rfl, pr, hl, hh⟩ := pairs_of (Pk := Pk) (o + 1) h2 fun k d' hd => by
      have := hk (k + 1) d' (by simpa using hd)
      rwa [show o + (k + 1) = o + 1 + k by omega] at this
    obtain ⟨a, u, u2, rfl, hT, e1, e2⟩ := dp_tup2 h1
    obtain rfl := dp_str e1
    obtain rfl := dp_int e2
    refine ⟨a :: ps, (.inr x, .int i) :: kvs, rfl, .cons hT pr, by rw [List.length_cons, List.length_cons, hl], fun k kv h => ?_⟩
    match k, h with
    | 0, h => exact ⟨x, i, (Option.some.inj h).symm, p0⟩
    | k + 1, h =>
      obtain ⟨y, j, e, q⟩ := hh k kv (by simpa using h)
      exact ⟨y, j, e, by rwa [show o + (k + 1) = o + 1 + k by omega]⟩
/-- names with residues -/
structure AsgD (q : Int) (ns : List Str) (kvs : List (Key × V)) : Prop where
  all : ∀ kv ∈ kvs, ∃ (x : Str) (i : Int), kv = (.inr x, .int i) ∧ nameB x = true ∧ 0 ≤ i ∧ i < q
  has : ∀ x ∈ ns, (Sum.inr x : Key) ∈ kvs.map (·.1)
  few : kvs.length ≤ 100
def gOf (kvs : List (Key × V)) (x : Str) : Int := match valV kvs (.inr x) with
  | some (.int i) => i
  | _ => 0
theorem AsgD.val {q : Int} {ns : List Str} {kvs : List (Key × V)} (h : AsgD q ns kvs) {x : Str} (hx : x ∈ ns) : valV kvs (.inr x) = some (.int (gOf kvs x)) := by
  have hm := h.has x hx
  obtain ⟨kv, hkv, e⟩ := List.mem_map.mp hm
  have ex : ∃ kv', kvs.find? (fun kv => decide (kv.1 = (Sum.inr x : Key))) = some kv' := by
    cases c : kvs.find? fun kv => decide (kv.1 = (Sum.inr x : Key)) with
    | none => exact absurd (decide_eq_true e) (by have := List.find?_eq_none.mp c kv hkv; simpa using this)
    | some kv' => exact ⟨kv', rfl⟩
  obtain ⟨kv', f⟩ := ex
  obtain ⟨y, i, rfl, _⟩ := h.all kv' (List.mem_of_find?_eq_some f)
  have e2 : valV kvs (.inr x) = some (.int i) := by unfold valV; rw [f]; rfl
  unfold gOf
  rw [e2]
theorem AsgD.asg {q : Int} {ns : List Str} {kvs : List (Key × V)} {H : Hp} {m : Addr} (h : AsgD q ns kvs) (e : H m = some (.dK kvs)) : ∃ g : Str → Int, ∃ kvs', H m = some (.dK kvs') ∧ ∀ x, x ∈ ns → valV kvs' (.inr x) = some (.int (g x)) := ⟨gOf kvs, kvs, e, fun x hx => h.val hx⟩
theorem AsgD.plain {q : Int} {ns : List Str} {kvs : List (Key × V)} (h : AsgD q ns kvs) (hq : q ≤ 1000) : ∀ kv ∈ kvs, Plain kv := fun kv hkv => by
  obtain ⟨x, i, rfl, hx, i0, i1⟩ := h.all kv hkv
  obtain ⟨n1, n2⟩ := nameB_low hx
  refine ⟨x, i, rfl, n1, n2, ?_⟩
  have : i.natAbs < 1000 := by omega
  exact Nat.lt_trans this (by decide)
theorem AsgD.put {q : Int} {ns : List Str} {kvs : List (Key × V)} {x : Str} {i : Int} (h : AsgD q ns kvs) (hx : nameB x = true) (i0 : 0 ≤ i) (i1 : i < q) (few : kvs.length ≤ 99) : AsgD q ns (putK kvs (.inr x) (.int i)) := by
  unfold putK
  by_cases c : (kvs.any fun kv => decide (kv.1 = (Sum.inr x : Key))) = true
  · rw [if_pos c]
    refine ⟨fun kv hkv => ?_, fun y hy => ?_, by rw [List.length_map]; omega⟩
    · obtain ⟨kv', h', rfl⟩ := List.mem_map.mp hkv
      by_cases e : kv'.1 = (Sum.inr x : Key)
      · rw [if_pos e, e]; exact ⟨x, i, rfl, hx, i0, i1⟩
      · rw [if_neg e]; exact h.all kv' h'
    · obtain ⟨kv', h', e⟩ := List.mem_map.mp (h.has y hy)
      refine List.mem_map.mpr ⟨_, List.mem_map.mpr ⟨kv', h', rfl⟩, ?_⟩
      split
      · exact e
      · exact e
  · rw [if_neg c]
    refine ⟨fun kv hkv => ?_, fun y hy => ?_, by rw [List.length_append]; show _ + 1 ≤ 100; omega⟩
    · rcases List.mem_append.mp hkv with hkv | hkv
      · exact h.all kv hkv
      · rw [List.mem_singleton.mp hkv]; exact ⟨x, i, rfl, hx, i0, i1⟩
    · rw [List.map_append]; exact List.mem_append_left _ (h.has y hy)
theorem dp_strs (K : PySem.W.Frag) (H : Hp) : ∀ ys : List Str, DpAll K H (ys.map V.str) (ys.map PyData.str)
  | [] => .nil
  | y :: ys => .cons (.str y) (dp_strs K H ys)
theorem nameB_ok {x : Str} (h : nameB x = true) : PyData.strOk x = true := by
  unfold nameB at h
  simp only [Bool.and_eq_true, decide_eq_true_eq, List.all_eq_true] at h
  obtain ⟨_, h3⟩ := h
  unfold PyData.strOk
  refine Array.all_eq_true'.mpr fun c hc => decide_eq_true ?_
  have := (h3 c (Array.mem_toList_iff.mpr hc)).2
  omega
theorem shaped_strs (ys : List Str) (h : ∀ y ∈ ys, nameB y = true) : SeqAt.shaped (.tuple (ys.map PyData.str)) = true := by
  have h1 : PyData.canLayAll0 (ys.map PyData.str) = true := by
    induction ys with
    | nil => rfl
    | cons y ys ih =>
      show (PyData.strOk y && PyData.canLayAll0 (ys.map PyData.str)) = true
      rw [ih fun z hz => h z (List.mem_cons_of_mem _ hz), nameB_ok (h y List.mem_cons_self)]; rfl
  have h2 : PyData.depthAll (ys.map PyData.str) = 0 := by
    clear h1 h
    induction ys with
    | nil => rfl
    | cons y ys ih =>
      show max 0 (PyData.depthAll (ys.map PyData.str)) = 0
      rw [ih]; rfl
  show (PyData.canLayAll0 (ys.map PyData.str) && decide (PyData.depthAll (ys.map PyData.str) + 1 ≤ 64)) = true
  rw [h1, h2]
  rfl
end Vx

/-! errors of one's own with fields, over any built-in class that makes its instances as LookupError does -/
namespace PySem.VErr
open Builtin Builtin.ObjectAttr PySem.HandSPX
/-- what is asked of the chain above an own error's class, and of what makes its instances -/
structure Up (bm : List Value) (newId : String) : Prop where
  own : ∃ B initId bmB, ExcBaseFacts B newId initId bmB ∧ bm.contains (.type B) = true
  atr : bm.contains (.type "AttributeError") = false
  nam : bm.contains (.type "NameError") = false
  obj : bm.contains (.type "object") = true
  pas : ∀ self, refuseLoop self "__setattr__" bm = pure ()
theorem up_ve : Up [.type "ValueError", .type "Exception", .type "BaseException", .type "object"] "ValueError.__new__" :=
  ⟨⟨_, _, _, F.excBase_ValueError, by decide +kernel⟩, by decide +kernel, by decide +kernel, by decide +kernel, fun self => by kernel_rfl⟩
theorem up_ke : Up [.type "KeyError", .type "LookupError", .type "Exception", .type "BaseException", .type "object"] "LookupError.__new__" :=
  ⟨⟨_, _, _, F.excBase_LookupError, by decide +kernel⟩, by decide +kernel, by decide +kernel, by decide +kernel, fun self => by kernel_rfl⟩
section
variable {M : Model} {prog : Program} {w : World} {A : Around} {E : Value → Shared → Prop} {R : Result → Shared → Prop} {h : Heap} {g : Array GenState} {d : Drawn} {t : Nat} {os : OsState}
variable {nm q : Str} {C N : Addr} {bs bm : List Value} {hdct : Bool} {sn : List Str} {sub : List Value} {ab : Bool} {col : Option Bool} {dd : Option Addr} {k0 k1 k2 k3 k5 : Option Value} {newId : String}
theorem chk_new (U : Up bm newId) {rest : List Value} {Q : Unit → Shared → Prop} (hC : h.get? C = some (excClassObj nm q C N bs bm hdct sn sub ab col dd k0 k1 k2 k3 k5 newId)) (k : Q () ⟨h, g, d, t, os⟩) : wpAny M A (checkBuiltinCall newId ⟨.ref C :: rest, []⟩) Q E ⟨h, g, d, t, os⟩ := by
  obtain ⟨B, ini, bmB, F, hB⟩ := U.own
  have c1 : (Value.ref C :: bm).contains (.type B) = true := by rw [List.contains_cons, hB, Bool.or_true]
  have c2 := F.noStar
  simp only [checkBuiltinCall, F.newKind, F.newSplit, F.newRow]
  repeat (first
    | refine wpAny_loadPart_at hC ?_
    | (refine wpAny_isSubtype_exc hC ?_; rw [c1])
    | refine wpAny_staticBase_exc hC ?_
    | refine wpAny_madeBy_exc hC ?_
    | simp only [bne_self_eq_false, Bool.false_eq_true, if_false]
    | wp_step)
  exact k
theorem run_new (U : Up bm newId) {rest : List Value} (hC : h.get? C = some (excClassObj nm q C N bs bm hdct sn sub ab col dd k0 k1 k2 k3 k5 newId)) (hl : rest.length ≤ sizeLine)
    (k : R (.ok (.ret (.ref (h.objs.size + 1)))) ⟨(h.push (W.kdv_tup rest)).push (excO C h.objs.size), g, d, t, os⟩) : codeAny (model prog w) A (.builtin newId ⟨.ref C :: rest, []⟩) R ⟨h, g, d, t, os⟩ := by
  obtain ⟨B, ini, bmB, F, hB⟩ := U.own
  have c0 := F.ends
  have c1 : (Value.ref C :: bm).contains (.type B) = true := by rw [List.contains_cons, hB, Bool.or_true]
  have c2 : (Value.ref C :: bm).contains (.type "AttributeError") = false := by rw [List.contains_cons, U.atr] <;> rfl
  have c3 : (Value.ref C :: bm).contains (.type "NameError") = false := by rw [List.contains_cons, U.nam] <;> rfl
  have hrest := hl
  refine codeAny_builtinAt F.entry ?_
  unfold Builtin.«BaseException.__new__»
  refine wpAt_bind ?_
  show wpAt _ _ _ (stack >>= _) _ _ _
  refine wpAt_bind (wpAt_stack fun p low => wpAt_of_wpAny ?_)
  wp_walk
  refine wpAt_of_wpAny ?_
  rw [F.owner]
  repeat (first
    | with_reducible refine wpAny_madeHere_exc F.canon hC ?_
    | with_reducible refine wpAny_loadPart_at hC ?_
    | (with_reducible refine wpAny_isSubtype_exc hC ?_; first | rw [c1] | rw [c2] | rw [c3])
    | wp_step)
  show R _ _
  rw [Heap.size_push]
  exact k
theorem run_type (U : Up bm newId) {rest : List Value} {fI : Addr} {Q : Fin → Shared → Prop} (hC : h.get? C = some (excClassObj nm q C N bs bm hdct sn sub ab col dd k0 k1 k2 k3 k5 newId)) (hi : W.Looks (model prog w) h (typeLookup (.ref C) "__init__") (some (.ref fI)))
    (hb : ∀ self, W.Looks (model prog w) h (bindSpecial (.ref fI) self) (.ref fI, [self])) (hl : rest.length ≤ sizeLine)
    (k : codeAny (model prog w) A (.call (.ref fI) ⟨.ref (h.objs.size + 1) :: rest, []⟩)
      (fun r s' => match r with | .ok (.ret v) => v = .none ∧ Q (.done (.ret (.ref (h.objs.size + 1)))) s' | .ok _ => False | .error e => E e s') ⟨(h.push (W.kdv_tup rest)).push (excO C h.objs.size), g, d, t, os⟩) :
    wpAny (model prog w) A (Builtin.«type.__call__» ⟨.ref C :: rest, []⟩) Q E ⟨h, g, d, t, os⟩ := by
  obtain ⟨B, ini, bmB, F, hB⟩ := id U.own
  repeat (first | with_reducible refine wpAny_loadPart_at hC ?_ | with_reducible refine wpAny_madeBy_exc hC ?_ | wp_step)
  refine codeAny_call_builtin_code (Code.quiet_builtin _ F.quiet) (chk_new U hC (run_new U hC hl ?_))
  show wpAny _ _ _ _ _ _
  have up : ∀ b o, h.get? b = some o → ((h.push (W.kdv_tup rest)).push (excO C h.objs.size)).get? b = some o := fun b o e => Heap.get?_push_of_some _ (Heap.get?_push_of_some _ e)
  have hC₁ := up _ _ hC
  have at_ : ((h.push (W.kdv_tup rest)).push (excO C h.objs.size)).get? (h.objs.size + 1) = some (excO C h.objs.size) := by heap_get
  have c1 : (Value.ref C :: bm).contains (.ref C) = true := by simp
  have i1 := hi.keeps up
  have b1 := (hb (.ref (h.objs.size + 1))).keeps up
  unfold isInstance
  repeat (first | with_reducible refine wpAny_loadPart_at at_ ?_ | (with_reducible refine wpAny_isSubtype_exc hC₁ ?_; rw [c1]) | wp_step)
  show wpAny _ _ (typeLookup (.ref C) _) _ _ _
  refine i1.at (wpAny_holding (wpAny_bind (b1.at ?_)))
  refine wpAny_bind (wpAny_call (codeAny_mono k fun r s' z => ?_))
  match r, z with
  | .error _, z => exact z
  | .ok .next, z => exact z.elim
  | .ok .brk, z => exact z.elim
  | .ok .cont, z => exact z.elim
  | .ok (.ret v), z =>
    obtain ⟨rfl, z⟩ := z
    first | exact wpAny_pure (wpAny_pure z) | (wp_walk; exact z)
/-- such a class is called: the instance is laid, then its own __init__ -/
theorem call_err (U : Up bm newId) {rest : List Value} {fI : Addr} (hC : h.get? C = some (excClassObj nm q C N bs bm hdct sn sub ab col dd k0 k1 k2 k3 k5 newId)) (hi : W.Looks (model prog w) h (typeLookup (.ref C) "__init__") (some (.ref fI)))
    (hb : ∀ self, W.Looks (model prog w) h (bindSpecial (.ref fI) self) (.ref fI, [self])) (hl : rest.length ≤ sizeLine)
    (k : codeAny (model prog w) (A.under (.builtin "type.__call__" ⟨.ref C :: rest, []⟩)) (.call (.ref fI) ⟨.ref (h.objs.size + 1) :: rest, []⟩) (W.InitBack (h.objs.size + 1) R) ⟨(h.push (W.kdv_tup rest)).push (excO C h.objs.size), g, d, t, os⟩) :
    codeAny (model prog w) A (.call (.ref C) ⟨rest, []⟩) R ⟨h, g, d, t, os⟩ := by
  have f1 := tc_lookup
  have f2 := tc_bind (.ref C)
  have f3 : Shared.TypeIs ⟨h, g, d, t, os⟩ (.ref C) "type" := ⟨_, hC, rfl⟩
  refine codeAny_of_tree ?_
  show wpAny _ _ (callAny (.ref C) _) _ _ _
  repeat (any_goals (first | assumption | with_reducible refine wpAny_loadPart_at hC ?_ | wp_step))
  refine ⟨rfl, codeAny_call_builtin_at (Code.quiet_builtin _ (by decide +kernel)) entry_typeCall (wpAny_check_type_call_sub hC (run_type U hC hi hb hl ?_))⟩
  refine codeAny_mono k fun r s' z => ?_
  match r, z with
  | .error _, z => exact z
  | .ok .next, z => exact z
  | .ok .brk, z => exact z
  | .ok .cont, z => exact z
  | .ok (.ret v), z => exact z
end
section
variable {prog : Program} {w : World} {A : Around} {R : Result → Shared → Prop} {hp : Heap} {g : Array GenState} {d : Drawn} {t : Nat} {os : OsState}
/-- self.name = v, the first one -/
theorem put_first {K : W.Frag} {name : Str} {tk : Tok} {v : Value} {x C : Addr} {fv : Array Value} {cd : ClassData} {bm : List Value} {newId : String} (U : Up bm newId)
    (X : K.In hp) (hx : hp.get? x = some { cls := .ref C, data := .fields fv }) (hcd : W.clsIn K C = some cd) (hm : cd.mro = .ref C :: bm) (hh : cd.hasDict = true) (ha : W.findIn K (.ref C) name = some none)
    (k : ∀ h' tk' dx, (∀ b o, b ≠ x → hp.get? b = some o → h'.get? b = some o) → hp.objs.size ≤ dx → dx ≠ x → h'.get? x = some { cls := .ref C, dict := some dx, data := .fields fv } →
      h'.Ns1 dx (fun y => if y = name then some v else none) → R (.ok (.ret .none)) ⟨h', g, d, tk', os⟩) :
    codeAny (model prog w) A (.call (.builtin "object.__setattr__") ⟨[.ref x, .str name tk, v], []⟩) R ⟨hp, g, d, t, os⟩ := by
  have I : W.InstAt hp x { cls := .ref C, data := .fields fv } C none := ⟨hx, rfl, rfl, trivial⟩
  have SF := F.store_object
  have ne : cd.mro.isEmpty = false := by rw [hm] <;> rfl
  have ob : cd.mro.contains (.type "object") = true := by rw [hm, List.contains_cons, U.obj, Bool.or_true]
  have hxs : x ≠ hp.objs.size := Nat.ne_of_lt (Heap.lt_size hx)
  have l0 : W.Looks (model prog w) hp (isInstance (.ref x) (.type "object")) true := I.type.andThen (W.looks_mroIn X (by unfold W.mroIn; rw [hcd, Option.bind_some, if_neg (by rw [ne]; decide), ob]))
  refine codeAny_call_builtin SF.slot.plain SF.entry (@W.check_slot (model prog w) _ _ ⟨hp, g, d, t, os⟩ "object.__setattr__" "object" "__setattr__" (.ref x) [.str name tk, v] [] _ SF.kind SF.split l0 (SF.args (.ref x) (.str name tk) v) ?_)
  have l1 : W.Looks (model prog w) hp (mroOf (.ref C)) cd.mro := (W.looks_clsIn X hcd).andThen .now
  have l2 : W.Looks (model prog w) hp (storeTaker? none) none := .now
  have l3 : W.Looks (model prog w) hp (classData C) cd := W.looks_clsIn X hcd
  rw [W.osa_eq, refuse_eq]
  refine wpAny_bind (wpAny_bind (I.type.at (wpAny_bind (l1.at ?_))))
  rw [hm, refuseLoop_ref, U.pas]
  refine wpAny_pure (wpAny_bind (I.type.at (wpAny_bind ((W.looks_findIn X ha).at (wpAny_bind (l2.at ?_))))))
  show wpAny _ _ (storeInOwnDict (.ref x) (.ref C) (.str name tk) name v false) _ _ _
  obtain ⟨nm, bs, mro, ns, qn, hd, sn, sb, ab, col, del⟩ := cd
  dsimp only at hh
  subst hh
  unfold storeInOwnDict ownDictForStores
  repeat (first
    | with_reducible refine store_in_new ?_ ?_
    | with_reducible refine wpAny_loadPart_at hx ?_
    | with_reducible refine l3.at ?_
    | wp_step)
  · exact ⟨_, #[], _, (Heap.get?_update_ne _ _ _ _ hxs.symm).trans (Heap.get?_push_at rfl rfl), rfl, fun e he => absurd he (by simp), fun _ => rfl⟩
  · intro h' tk' hn' hs
    have hx₁ : (hp.push { cls := .type "dict", data := .dict #[] }).get? x = some { cls := .ref C, data := .fields fv } := Heap.get?_push_of_some _ hx
    refine k h' tk' hp.objs.size (fun b o hb ho => ?_) (Nat.le_refl _) hxs.symm ((hs.2 x hxs).trans (Heap.get?_update_self _ hx₁ rfl)) hn'
    exact (hs.2 b (Nat.ne_of_lt (Heap.lt_size ho))).trans ((Heap.get?_update_ne _ _ _ _ hb).trans (Heap.get?_push_of_some _ ho))
end
end PySem.VErr

namespace PySem.VErr
open PySem.W PySem.Calls PyProof.Rows PySem.HandSPX
/-! an error class with one field: class x(..): def __init__(self, f): self.f = f -/
def eArgs (f : Str) (p1 p2 : Pos) : Arguments := { posonlyargs := [], args := [{ arg := "self", annotation := none, pos := p1 }, { arg := f, annotation := none, pos := p2 }], vararg := none, kwonlyargs := [], kw_defaults := [], kwarg := none, defaults := [] }
def eBody (f : Str) (q1 q2 q3 q4 : Pos) : List Stmt := [.Assign [.Attribute (.Name "self" q1) f q2] (.Name f q3) q4]
def eScope (f : Str) : Scope := { kind := .function, names := [("self", .local), (f, .local)], isGenerator := false, isCoroutine := false, more := [] }
theorem eKind {f : Str} (ne : f ≠ "self") (name : Str) (L a : Addr) (cd : Value) : (envOfC name (eScope f) L a cd).kindOf f = some .local := by
  show List.lookup f [(("self" : Str), NameKind.local), (f, NameKind.local)] = some NameKind.local
  have q : (f == ("self" : Str)) = false := by simpa using ne
  simp [List.lookup, q]
theorem eSelf {f : Str} (name : Str) (L a : Addr) (cd : Value) : (envOfC name (eScope f) L a cd).kindOf "self" = some .local := rfl
/-- what the written part says of the class, at C, and of its __init__, at fI -/
structure Er (K : Frag) (mg : Str → Option Value) (x f qi : Str) (C fI : Addr) : Prop where
  gC : mg x = some (.ref C)
  cls : ∃ nm q N bs bm sn sub ab col dd k0 k1 k2 k3 k5 nw, K.lookup C = some (excClassObj nm q C N bs bm true sn sub ab col dd k0 k1 k2 k3 k5 nw) ∧ Up bm nw
  sa : findIn K (.ref C) "__setattr__" = some (some (.builtin "object.__setattr__"))
  noN : findIn K (.ref C) f = some none
  iC : findIn K (.ref C) "__init__" = some (some (.ref fI))
  tC : typeIn K (.ref fI) = some (.type "function")
  kC : keepIn K (.ref C) = true
  exC : subIn K (.ref C) (.type "BaseException") = some true
  tyC : typeIn K (.ref C) = some (.type "type")
  nf : f ≠ "self" ∧ (f == ("__debug__" : Str)) = false
  fn : ∃ (oc : Value) (od : Option Addr) (doc pm : Value) (an : Option Addr) (cdv ct : Value) (osl : Array (Option Value)) (p1 p2 q1 q2 q3 q4 : Pos),
    K.lookup fI = some ⟨oc, od, .func (fnOf "__init__" qi (eArgs f p1 p2) (eBody f q1 q2 q3 q4) (eScope f) .none .none doc pm an cdv ct), osl⟩ ∧ codeIn K cdv qi = true ∧
      ∀ u v, bindArgs (fnOf "__init__" qi (eArgs f p1 p2) (eBody f q1 q2 q3 q4) (eScope f) .none .none doc pm an cdv ct) ⟨[u, v], []⟩ = pure [(("self" : Str), u), (f, v)]
/-- what __init__ leaves of a new instance at x -/
structure Inited (h h' : Heap) (x C dx t1 : Addr) (f : Str) (v : Value) : Prop where
  keep : ∀ b o, b ≠ x → h.get? b = some o → h'.get? b = some o
  obj : h'.get? x = some { cls := .ref C, dict := some dx, data := .fields #[.ref t1, .none, .none, .none, .bool false, .none] }
  dbig : h.objs.size ≤ dx
  dne : dx ≠ x
  ns : h'.Ns1 dx (fun y => if y = f then some v else none)
/-- an error that was made -/
structure Errs (h h' : Heap) (e C d : Addr) (f : Str) (v : Value) : Prop where
  keep : ∀ b o, h.get? b = some o → h'.get? b = some o
  new : h.objs.size ≤ e
  obj : ∃ oe vs, h'.get? e = some oe ∧ oe.cls = .ref C ∧ oe.dict = some d ∧ oe.data = .fields vs ∧ vs[1]? = some .none
  dbig : h.objs.size ≤ d
  dne : d ≠ e
  ns : h'.Ns1 d (fun y => if y = f then some v else none)
section
variable {prog : Program} {w : World} {A : Around} {E : Value → Shared → Prop} {R : Result → Shared → Prop} {s : Shared} {K : Frag} {mg : Str → Option Value} {x f qi : Str} {C fI : Addr}
theorem ld_own {M : Model} {name : Str} {scope : Scope} {L a : Addr} {cd : Value} {m : Str → Option Value} {y : Str} {pos : Pos} {v : Value} {Q : Value → Shared → Prop} (hn : s.heap.Ns L m) (hv : m y = some v)
    (hk : scope.kind = .function) (hl : (envOfC name scope L a cd).kindOf y = some .local) (hd : (y == ("__debug__" : Str)) = false) (h : Q v s) :
    wpAny M A (eval (.Name y pos) (envOfC name scope L a cd)) Q E s := wpAny_Name (wpAny_loadName_local hk hl hn hv h) hd
theorem run_init (T : Er K mg x f qi C fI) {e t0 : Addr} {v : Value} (X : K.In s.heap) (hlim : s.heap.NoLimit) (hx : s.heap.get? e = some (excO C t0)) (hnx : K.lookup e = none) (hroom : A.depth < recursionLimit)
    (k : ∀ h' tk dx, Inited s.heap h' e C dx t0 f v → R (.ok (.ret .none)) { s with heap := h', toks := tk }) : codeAny (model prog w) A (.call (.ref fI) ⟨[.ref e, v], []⟩) R s := by
  obtain ⟨oc, od, doc, pm, an, cdv, ct, osl, p1, p2, q1, q2, q3, q4, ho, hcd, hbd⟩ := T.fn
  obtain ⟨nm, q, N, bs, bm, sn, sub, ab, col, dd, k0, k1, k2, k3, k5, nw, hC, U⟩ := T.cls
  have hcl : clsIn K C = some { name := nm, bases := bs, mro := .ref C :: bm, ns := N, qualname := q, hasDict := true, slotNames := sn, subclasses := sub, abstract := ab, collection := col, hasDel := false } := by
    unfold clsIn
    rw [hC] <;> rfl
  have kf := fun L a cd => eKind T.nf.1 qi L a cd
  refine Att.call_fn (binds := [("self", .ref e), (f, v)]) X hlim ho hcd hroom (BindsTo.of_eq (hbd _ _)) ?_ (fun s₁ IC => ?_) rfl rfl rfl
  · have z1 : List.lookup ("self" : Str) (eScope f).names = some NameKind.local := rfl
    have z2 : List.lookup f (eScope f).names = some NameKind.local := kf 0 0 .none
    simp only [List.all_cons, List.all_nil, z1, z2]
    rfl
  obtain ⟨h₁, tk₁, rfl⟩ := IC.toInCall.same
  have up : ∀ b o, s.heap.get? b = some o → h₁.get? b = some o := IC.toInCall.keep
  have hn := IC.toInCall.ns
  have X₁ : K.In h₁ := X.keeps up
  have hx₁ := up _ _ hx
  have v1 : bindL (envOfC qi (eScope f) s.heap.objs.size fI cdv).kindOf [("self", Value.ref e), (f, v)] (fun _ => none) f = some v := by
    simp only [bindL, kf, if_true]
  have v2 : bindL (envOfC qi (eScope f) s.heap.objs.size fI cdv).kindOf [("self", Value.ref e), (f, v)] (fun _ => none) "self" = some (.ref e) := by
    have q : ("self" : Str) ≠ f := Ne.symm T.nf.1
    simp only [bindL, kf, eSelf, if_true]
    rw [if_neg q]
    first | rfl | simp
  -- self.f = f
  show wpAny _ _ (execs _ _) _ _ _
  refine wpAny_execs_cons (plainObj_wpAny_Assign_Attribute ?_)
  refine ld_own hn v1 rfl (kf _ _ _) T.nf.2 (ld_own hn v2 rfl (eSelf _ _ _ _) (by decide) ?_)
  refine set_plain X₁ (ox := excO C t0) (od := none) ⟨hx₁, rfl, rfl, trivial⟩ T.sa ?_
  refine put_first U X₁ hx₁ hcl rfl rfl T.noN (fun h₃ tk₃ dx k₃ dn dne hx₃ hn₃ => ?_)
  show wpAny _ _ (execs _ _) _ _ _
  have z : s.heap.objs.size < h₁.objs.size := hn.lt
  exact wpAny_execs_nil (k h₃ tk₃ dx ⟨fun b o hb w => k₃ b o hb (up b o w), hx₃, Nat.le_of_lt (Nat.lt_of_lt_of_le z dn), dne, hn₃⟩)
theorem run_made (T : Er K mg x f qi C fI) {v : Value} (X : K.In s.heap) (hlim : s.heap.NoLimit) (hroom : A.depth + 1 < recursionLimit)
    (k : ∀ h' tk e d, Errs s.heap h' e C d f v → R (.ok (.ret (.ref e))) { s with heap := h', toks := tk }) : codeAny (model prog w) A (.call (.ref C) ⟨[v], []⟩) R s := by
  obtain ⟨nm, q, N, bs, bm, sn, sub, ab, col, dd, k0, k1, k2, k3, k5, nw, hC, U⟩ := T.cls
  obtain ⟨hp, g, dr, tk, os⟩ := s
  have up : ∀ b o, hp.get? b = some o → ((hp.push (kdv_tup [v])).push (excO C hp.objs.size)).get? b = some o := fun b o e => Heap.get?_push_of_some _ (Heap.get?_push_of_some _ e)
  have at_ : ((hp.push (kdv_tup [v])).push (excO C hp.objs.size)).get? (hp.objs.size + 1) = some (excO C hp.objs.size) := by heap_get
  have hnx : K.lookup (hp.objs.size + 1) = none := by
    cases e : K.lookup (hp.objs.size + 1) with
    | none => rfl
    | some o =>
      have z : hp.get? (hp.objs.size + 1) = some o := X _ _ e
      exact absurd (Nat.lt_of_succ_lt (Heap.lt_size z)) (Nat.lt_irrefl _)
  have one : [v].length ≤ sizeLine := by rw [sizeLine_eq]; exact (by decide : 1 ≤ 16777216)
  refine call_err U (X _ _ hC) (looks_findIn X T.iC) (fun self => bind_fn X self T.tC) one ?_
  refine run_init (s := ⟨(hp.push (kdv_tup [v])).push (excO C hp.objs.size), g, dr, tk, os⟩) T (X.keeps up) (hlim.keeps up) at_ hnx (show A.depth + 1 < recursionLimit from hroom) fun h' tk' dx ⟨k', hx, dn, dne, hns⟩ => ?_
  have old : ∀ b o, hp.get? b = some o → h'.get? b = some o := fun b o e => k' b o (Nat.ne_of_lt (Nat.lt_succ_of_lt (Heap.lt_size e))) (up b o e)
  have z : hp.objs.size + 1 + 1 ≤ dx := by
    first
      | (simpa only [Heap.size_push] using dn)
      | exact dn
  exact ⟨rfl, k h' tk' (hp.objs.size + 1) dx ⟨old, Nat.le_succ _, ⟨_, _, hx, rfl, rfl, rfl, rfl⟩, Nat.le_trans (Nat.le_trans (Nat.le_succ _) (Nat.le_succ _)) z, dne, hns⟩⟩
end
end PySem.VErr
namespace Vx
open PySem PySem.Spec PyProof.Rows L2
theorem relO_one {f : Str} {v : V} {v' : Value} (r : RelV v v') (y : Str) : RelO (List.lookup y [(f, v)]) (if y = f then some v' else none) := by
  by_cases hw : y = f
  · subst hw
    rw [if_pos rfl]
    have q : List.lookup y [(y, v)] = some v := by simp [List.lookup]
    rw [q]
    exact r
  · rw [if_neg hw]
    have qw : (y == f) = false := by simpa using hw
    have q2 : List.lookup y [(f, v)] = none := by simp [List.lookup, qw]
    rw [q2]
    trivial
section
variable {X : Cx} {x f qi : Str} {C fI : Addr}
/-- x(e) -/
def tMk (C : Addr) (f : Str) (ta : TA) : L2.St → Hp → XK → Prop := fun σ H Q => ta σ H fun vs H1 => ∃ v, vs = [v] ∧ ∀ d, H1 d = none → Q (.ref C) (some d) (upd H1 d (.xd [(f, v)]))
theorem pmk_err {a : Expr} {ta : TA} {p pos : Pos} {k : Nat} (T : PySem.VErr.Er X.K X.mg x f qi C fI) (hr : Room k X.A) (ha : PA X [a] ta) (hg : Gl X x) (hdb : (x == ("__debug__" : Str)) = false := by decide +kernel)
    (he : starEach (a :: []) X.env = (false, eval a X.env) :: starEach [] X.env := by rfl) (hpl : (backTo pos (starEach [] X.env)).any (·.1) = false := by rfl) :
    PMk X (.Call (.Name x p) [a] [] pos) (tMk C f ta) := by
  intro pins s σ H Q I h
  refine wpAny_Call_Name_kw (ld_glob I hg T.gC ?_ hdb)
  refine PySem.W.callWith_K (h₀ := X.base) I.ok.mod.kin T.kC (thn (ha.run pos pins s σ H _ I h) fun us s1 hh => ?_) he hpl
  obtain ⟨vs, H1, I1, r1, v, ev, q1⟩ := hh
  subst ev
  refine ⟨I1.kIn, ?_⟩
  obtain ⟨u, rfl, rv⟩ := vals1 r1
  show wpAny _ _ (call (.ref C) [u]) _ _ _
  have hlim := I1.nolimit
  obtain ⟨hp, g, dr, tk, os⟩ := s1
  refine wpAny_call (PySem.VErr.run_made T I1.kIn hlim (by have := hr.dp; omega) fun h' tk' e d M => ?_)
  show MkP X pins σ Q (.ref e) ⟨h', g, dr, tk', os⟩
  obtain ⟨oe, fv, hoe, hc, hd, hdat, h1⟩ := M.obj
  have hns := M.ns
  obtain ⟨G', g1, g2⟩ := restrict h' fun b => decide (b ≠ e)
  have gk : ∀ b, b ≠ e → G'.get? b = h'.get? b := fun b hb => g1 b (decide_eq_true hb)
  have ge : G'.get? e = none := g2 e (by simp)
  have old : ∀ b o, hp.get? b = some o → G'.get? b = some o := fun b o q => (gk b (Nat.ne_of_lt (Nat.lt_of_lt_of_le (Heap.lt_size q) M.new))).trans (M.keep b o q)
  have ob : ObjOk X.prog X.w (upd H1 d (.xd [(f, v)])) G' d (.xd [(f, v)]) := ⟨_, hns.at (fun o q => (gk d M.dne).trans q), fun y => relO_one rv y⟩
  have J : Inv X pins σ (upd H1 d (.xd [(f, v)])) ⟨G', g, dr, tk', os⟩ := I1.laid (t' := tk') old M.dbig ob
  refine ⟨e, oe, fv, ⟨G', g, dr, tk', os⟩, _, .ref C, some d, rfl, J, fun b o q => ?_, ge, hoe, ⟨hc, hd⟩, hdat, h1, ?_, rfl, I1.bare, raises_own T.exC T.tyC, q1 d (I1.hok.fresh M.dbig)⟩
  · by_cases hb : b = e
    · have q' : G'.get? b = some o := q
      rw [hb, ge] at q'; cases q'
    · exact (gk b hb).symm.trans q
  · rw [upd_ne (Ne.symm M.dne)]
    exact I1.hok.fresh M.new
/-- raise x(e) -/
def tRaise1 (C : Addr) (f : Str) (W : WX) (ta : TA) : TS := fun _ σ H => tMk C f ta σ H fun cls d H' => W cls d σ H'
theorem ps_raise1 {a : Expr} {ta : TA} {W : WX} {p pos pos2 : Pos} {k : Nat} (hc : X.calm = true) (T : PySem.VErr.Er X.K X.mg x f qi C fI) (hr : Room k X.A) (tk : Takes X W) (ha : PA X [a] ta) (hg : Gl X x) (hdb : (x == ("__debug__" : Str)) = false := by decide +kernel)
    (he : starEach (a :: []) X.env = (false, eval a X.env) :: starEach [] X.env := by rfl) (hpl : (backTo pos (starEach [] X.env)).any (·.1) = false := by rfl) :
    PS X (.Raise (some (.Call (.Name x p) [a] [] pos)) none pos2) (tRaise1 C f W ta) := ps_raise hc tk (pmk_err T hr ha hg hdb he hpl)
end
section
variable {P : Program} {w : World} {K : PySem.W.Frag} {mg : Str → Option Value} {base : Heap}
/-- a def that may raise -/
theorem okX {x qual : Str} {st : Stmt} {f : Addr} {fd : FuncData} {N ps : List Str} {k : Nat} {sp : Sp} (F : Fun K x qual st f fd) (S : FnScope N ps (defScope st)) (ln : ∀ vs H Q E, sp vs H Q E → vs.length = ps.length)
    (hb : ∀ (cdv : Value) (A : Around) (o : List Env) (s : Shared) (H : Hp) (vs : List V) (Q : VK) (E : XK), Rm k (A.deeper (envOfC qual (defScope st) s.heap.objs.size f cdv)) → sp vs H Q E →
      ∃ t, PSs (cxOf (L2.CX P w) P w K mg base N qual (defScope st) f cdv A o s H E) (defBody st) t ∧ t { nx := fun _ H' => Q .non H', rt := Q } (start N vs) H) : FnG P w K mg base (L2.CX P w) (k + 1) f fd ps sp := by
  obtain ⟨oc, od, kV, doc, pm, an, cdv, ct, osl, rfl, lk, hcd⟩ := F.ex
  exact fn_ofG lk hcd S ln fun A o s H vs Q E hr h => hb cdv A o s H vs Q E hr h
/-- such a def that others call -/
structure CalX (P : Program) (w : World) (K : PySem.W.Frag) (mg : Str → Option Value) (base : Heap) (x : Str) (k : Nat) (ps : List Str) (sp : Sp) : Prop where
  ex : ∃ f fd, FnG P w K mg base (L2.CX P w) k f fd ps sp ∧ mg x = some (.ref f) ∧ PySem.W.keepIn K (.ref f) = true ∧ Binds K fd ps []
end
section
variable {X : Cx} {CX : CXT} {k : Nat} {f : Addr} {fd : FuncData} {ps : List Str} {sp : Sp} {E : L2.St → XK} {x : Str} {p pos : Pos} {e : Expr} {es : List Expr} {t : TA}
/-- what it raises is wished for at the caller's slots -/
theorem ge_callS (F : FnG X.prog X.w X.K X.mg X.base CX k f fd ps sp) (hr : Rm k X.A) (hg : Gl X x) (hm : X.mg x = some (.ref f)) (hk : PySem.W.keepIn X.K (.ref f) = true) (hb : Binds X.K fd ps []) (hx : ∀ σ, PassesAt CX X σ (E σ))
    (ha : PA X (e :: es) t) (hdb : (x == ("__debug__" : Str)) = false := by decide) (he : starEach (e :: es) X.env = (false, eval e X.env) :: starEach es X.env := by rfl) (hpl : (backTo pos (starEach es X.env)).any (·.1) = false := by rfl) :
    PE X (.Call (.Name x p) (e :: es) [] pos) (tCallS sp E t) := by
  constructor
  intro pins s σ H Q I h
  refine wpAny_Call_Name_kw (ld_glob I hg hm (PySem.W.callWith_K (h₀ := X.base) I.ok.mod.kin hk (thn (ha.run pos pins s σ H _ I h) ?_) he hpl) hdb)
  rintro us s1 ⟨vs, H1, I1, r, q⟩
  have l := F.ln _ _ _ _ q
  rw [r.length] at l
  have b := hb s1 us I1.kIn (by rw [List.append_nil]; exact l)
  rw [List.append_nil] at b
  refine ⟨I1.kIn, wpAny_call (codeAny_mono (F.go X.A X.stack s1 H1 ⟨us, []⟩ us vs Q (E σ) hr I1.env0 b r q) ?_)⟩
  intro z s' hq
  match z, hq with
  | .ok (.ret _), hq => exact I1.after hq
  | .ok .next, hq => exact False.elim hq
  | .ok .brk, hq => exact False.elim hq
  | .ok .cont, hq => exact False.elim hq
  | .error er, hq => exact hx σ pins H1 s1 er s' I1 hq
end
end Vx

namespace Vx
open PySem PySem.Spec PyProof.Rows L2
/-- isinstance(e, c), e the error that the suite holds, with fields -/
def rIsX (K : PySem.W.Frag) (D a : Addr) (d : Option Addr) : List V → Hp → VK → Prop := fun xs H Q => ∃ (c : V) (cv : Value) (b : Bool) (dd : Addr) (fs : List (Str × V)), xs = [.ref a, c] ∧ (∀ u, RelV c u → u = cv) ∧ PySem.W.kitOne K (.ref D) cv = some b ∧ d = some dd ∧ H dd = some (.xd fs) ∧ Q (.bl b) H
theorem call_isX {X : Cx} {a D : Addr} {oe : Obj} {cls : Value} {d : Option Addr} {pn : List (Addr × Obj)} (C : ExcC X.K D) (hz : Zc cls d oe) (hf : ∃ vs, oe.data = .fields vs) : CallR (X.suite a ((a, oe) :: pn)) (.builtin "isinstance") (fun xs H Q => cls = .ref D ∧ rIsX X.K D a d xs H Q) := by
  intro pins s σ H xs us Q I r ⟨ec, h⟩
  subst ec
  obtain ⟨c, cv, b, dd, fs, rfl, hcv, e, rfl, ea, q⟩ := h
  obtain ⟨u1, u2, rfl, r1, r2⟩ := vals2 r
  obtain rfl : u1 = Value.ref a := r1
  have e2 := hcv _ r2
  subst e2
  obtain ⟨hget, _⟩ := I.pin (a, oe) (List.mem_append.mpr (.inl List.mem_cons_self))
  obtain ⟨vs, hv⟩ := hf
  have hx : ObjOk X.prog X.w H s.heap dd (.xd fs) := I.hok dd _ ea
  obtain ⟨mA, hns, hr⟩ := hx
  obtain ⟨od, ho, hl⟩ := lookIn_ns hns
  have J : PySem.W.InstAt s.heap a oe D (some od) := ⟨hget, hz.1, by unfold PySem.W.notCls; rw [hv] <;> rfl, by rw [hz.2]; exact ho⟩
  have hc : (PySem.W.clsIn X.K D).isSome = true := by
    obtain ⟨cd, hc, _⟩ := PySem.W.any_some C.hd
    rw [hc]
    rfl
  exact PySem.W.kia_one (PySem.W.kitx_exc hc C.hg C.hk C.hs C.ha C.hn C.ht C.hm) I.kIn J e (fun z => nomatch z) fun tk => ⟨.bl b, H, I.kept (t' := tk) fun _ _ z => z, rfl, q⟩
end Vx
namespace Vx
open PySem PySem.Spec PyProof.Rows L2
/-- all that is wanted of an error class with one field -/
structure ErF (K : PySem.W.Frag) (mg : Str → Option Value) (x f qi : Str) (C fI : Addr) : Prop where
  er : PySem.VErr.Er K mg x f qi C fI
  xf : XfC K C
  ec : ExcC K C
  te : PySem.W.exmOne K (.ref C) (.ref C) = some true
theorem erF_of {K : PySem.W.Frag} {mg : Str → Option Value} {x f qi : Str} {C fI : Addr} (er : PySem.VErr.Er K mg x f qi C fI)
    (ga : PySem.W.findIn K (.ref C) "__getattribute__" = some (some (.builtin "BaseException.__getattribute__"))) (gg : PySem.W.findIn K (.ref C) "__getattr__" = some none) (hd : PySem.W.hasDictIn K C = true)
    (jc : PySem.W.isClsIn K C = true) (sc : PySem.W.subIn K (.ref C) (.ref C) = some true) (ha : PySem.W.findIn K (.ref C) "__class__" = some (some (.builtin "object.__class__")))
    (hn : PySem.W.specialIn K (.builtin "object.__class__") "__get__" = some (some (.builtin "getset_descriptor.__get__"))) (ht : PySem.W.takesIn K (.builtin "object.__class__") = some true) (hm : PySem.W.mroIn K C (.type "object") = some true) : ErF K mg x f qi C fI :=
  ⟨er, ⟨ga, gg, er.exC, hd⟩, ⟨ga, gg, er.exC, hd, ha, hn, ht, hm⟩, PySem.W.exm_ref er.exC hd er.tyC sc⟩
theorem kit_up {K : PySem.W.Frag} {C : Addr} {T : String} {b : Bool} (h : PySem.W.subIn K (.ref C) (.type T) = some b) (m : PySem.W.kitMeta T = true) : PySem.W.kitOne K (.ref C) (.type T) = some b := by
  unfold PySem.W.kitOne PySem.W.kitCls
  rw [if_neg (by intro z; cases z)]
  show (if PySem.W.kitMeta T = true then PySem.W.subIn K (.ref C) (.type T) else none) = some b
  rw [if_pos m, h]
end Vx

namespace Vx
open PySem PySem.Spec PyProof.Rows L2
/-! constants of the module: numbers, texts, a dict from texts to numbers -/
theorem pe_cI {X : Cx} {x : Str} {p : Pos} {i : Int} (h : ∃ t, X.mg x = some (.int i t)) (hg : Gl X x) (hd : (x == ("__debug__" : Str)) = false := by decide +kernel) : PE X (.Name x p) (tC (.int i)) := by
  obtain ⟨t, e⟩ := h
  exact pe_glob hg e ⟨t, rfl⟩ hd
theorem pe_cS {X : Cx} {x : Str} {p : Pos} {z : Str} (h : ∃ t, X.mg x = some (.str z t)) (hg : Gl X x) (hd : (x == ("__debug__" : Str)) = false := by decide +kernel) : PE X (.Name x p) (tC (.str z)) := by
  obtain ⟨t, e⟩ := h
  exact pe_glob hg e ⟨t, rfl⟩ hd
/-- a written dict from texts to numbers, by its pairs -/
structure KTab (K : PySem.W.Frag) (w : World) (mg : Str → Option Value) (x : Str) (kvs : List (Str × Int)) : Prop where
  ex : ∃ (d : Addr) (es : Array DictEntry) (n : Nat), mg x = some (.ref d) ∧ K.lookup d = some ⟨.type "dict", none, .dict es n, #[]⟩ ∧ PySem.W.KeysLit w.params es.toList ∧ (d == sysModules) = false ∧
    Paired (fun e (kv : Str × Int) => (∃ t, e.key = .str kv.1 t) ∧ ∃ t, e.val = .int kv.2 t) es.toList kvs
theorem tab_find : ∀ {es : List DictEntry} {kvs : List (Str × Int)} (z : Str), Paired (fun e (kv : Str × Int) => (∃ t, e.key = .str kv.1 t) ∧ ∃ t, e.val = .int kv.2 t) es kvs →
    match (kvs.find? fun kv => decide (kv.1 = z)).map (·.2), (es.find? fun e => Value.isStrOf z e.key).map (·.val) with
    | none, none => True
    | some i, some v => ∃ t, v = .int i t
    | _, _ => False
  | [], [], z, .nil => trivial
  | e :: es, (k, i) :: kvs, z, .cons ⟨⟨t, e1⟩, u, e2⟩ r => by
    have ih := tab_find z r
    by_cases c : k = z
    · have q : Value.isStrOf z e.key = true := by rw [e1, c]; exact beq_self_eq_true z
      rw [List.find?_cons_of_pos (by simpa using c), List.find?_cons_of_pos (p := fun e : DictEntry => Value.isStrOf z e.key) q]
      exact ⟨u, e2⟩
    · have q : ¬ Value.isStrOf z e.key = true := by
        rw [e1]
        intro w
        have w : (k == z) = true ∨ (z == k) = true := by first | exact .inl w | exact .inr w
        rcases w with w | w
        · exact c (by simpa using w)
        · exact c (by have := (by simpa using w : z = k); exact this.symm)
      rw [List.find?_cons_of_neg (by simpa using c), List.find?_cons_of_neg (p := fun e : DictEntry => Value.isStrOf z e.key) q]
      exact ih
def tabV (kvs : List (Str × Int)) (z : Str) : V := match (kvs.find? fun kv => decide (kv.1 = z)).map (·.2) with
  | none => .non
  | some i => .int i
/-- TABLE.get(e) -/
theorem pe_kget {X : Cx} {x : Str} {kvs : List (Str × Int)} {e : Expr} {ty : TE} {p apos cpos : Pos} (T : KTab X.K X.w X.mg x kvs) (hg : Gl X x) (he : PE X e ty) (m : M1 X (.Name x p) "get" apos e cpos) (hd : (x == ("__debug__" : Str)) = false := by decide +kernel) :
    PE X (.Call (.Attribute (.Name x p) "get" apos) [e] [] cpos) (fun σ H Q => ty σ H fun y H2 => ∃ z, y = .str z ∧ Q (tabV kvs z) H2) := by
  obtain ⟨d, es, n, hm, hl, lit, low, pr⟩ := T.ex
  have ho : PE X (.Name x p) (tC (.ref d)) := pe_glob hg hm rfl hd
  refine ⟨fun pins s σ H Q I h => ?_⟩
  refine wpAny_Call_method m.base m.few m.line PySem.F.plainAttrs_dict PySem.F.slot_dict_get PySem.F.type_dict_get (thn (ho.run pins s σ H (fun v H' => v = .ref d ∧ H' = H) I ⟨rfl, rfl⟩) ?_)
  rintro u s1 ⟨x', H1, I1, rx, rfl, rfl⟩
  obtain rfl : u = Value.ref d := rx
  have mo := PySem.W.mapOf_K (prog := X.prog) (w := X.w) I1.kIn hl lit
  refine ⟨mo.typeIs, fun b q => ?_, ?_⟩
  · cases q
    exact ⟨_, I1.kIn _ _ hl, rfl⟩
  rw [m.trees]
  refine Calls.callWith_builtin rfl (Calls.evalArgs_plain (Calls.spliced_cons (thn (he.run pins s1 σ _ _ I1 h) fun iv s2 ⟨y, H2, I2, ry, z, ey, q2⟩ => Calls.spliced_nil ?_)))
  subst ey
  obtain ⟨t, rfl⟩ := (show ∃ t, iv = Value.str z t from ry)
  have mo2 := PySem.W.mapOf_K (prog := X.prog) (w := X.w) I2.kIn hl lit
  refine call_meetsIn PySem.F.slot_dict_get mo2.typeIs PySem.F.entry_dict_get (PySem.F.args_dict_get_2 _ _) (meets_dict_get (strKind X.prog X.w) d (strKind_is X.prog X.w z t) low) ⟨_, mo2, ?_⟩
  have f := tab_find z pr
  have e3 : findBy Value.isStrOf es z = (es.toList.find? fun e => Value.isStrOf z e.key).map (·.val) := by
    obtain ⟨l⟩ := es
    unfold findBy
    rw [List.find?_toArray]
  rw [e3]
  unfold tabV at q2
  cases c1 : (kvs.find? fun kv => decide (kv.1 = z)).map (·.2) with
  | none =>
    cases c2 : (es.toList.find? fun e => Value.isStrOf z e.key).map (·.val) with
    | none => rw [c1] at q2; exact ⟨.non, H2, I2.tok _, rfl, q2⟩
    | some v => rw [c1, c2] at f; exact f.elim
  | some i =>
    cases c2 : (es.toList.find? fun e => Value.isStrOf z e.key).map (·.val) with
    | none => rw [c1, c2] at f; exact f.elim
    | some v =>
      rw [c1, c2] at f
      obtain ⟨u, rfl⟩ := f
      rw [c1] at q2
      exact ⟨.int i, H2, I2.tok _, ⟨u, rfl⟩, q2⟩
/-- a comprehension over a text's signs -/
theorem lc_str {z : Str} {g : TG} {tt : TT} {te : TE} {vs : List Nat} {σ : L2.St} {H1 : Hp} {D : Addr} {Qd : Hp → Prop} (Pv : Nat → Hp → Prop) (h0 : Pv 0 (upd H1 D (.lst [])))
    (hs : ∀ (i : Nat) (c : Nat) H, z.cps[i]? = some c → Pv i H → g (.str ⟨#[c]⟩) (wipe σ vs) H fun σ2 H2 => wipe σ2 vs = wipe σ vs ∧ tt σ2 H2 fun b H3 =>
      if b = true then te σ2 H3 fun y H4 => ∃ acc, H4 D = some (.lst acc) ∧ acc.length < sizeLine ∧ Pv (i + 1) (upd H4 D (.lst (acc ++ [y]))) else Pv (i + 1) H3) (hd : ∀ H, Pv z.cps.size H → Qd H) :
    ∃ W : Nat → Nat → Hp → Prop, (∃ m, W 0 m (upd H1 D (.lst []))) ∧ ∀ i m H, W i m H →
      ((Its z).stop i H ∧ Qd H) ∨ ((Its z).go i H ∧ ∃ Nx : Hp → Prop, (∀ H', Nx H' → ∃ m', m' < m ∧ W (i + 1) m' H') ∧ ∀ x H', (Its z).yld i H x H' → g x (wipe σ vs) H' fun σ2 H2 => wipe σ2 vs = wipe σ vs ∧ tt σ2 H2 fun b H3 =>
        if b = true then te σ2 H3 fun y H4 => ∃ acc, H4 D = some (.lst acc) ∧ acc.length < sizeLine ∧ Nx (upd H4 D (.lst (acc ++ [y]))) else Nx H3) := by
  refine ⟨fun i m H => m = z.cps.size - i ∧ i ≤ z.cps.size ∧ Pv i H, ⟨_, rfl, Nat.zero_le _, h0⟩, ?_⟩
  rintro i m H ⟨rfl, hi, p⟩
  by_cases l : i < z.cps.size
  · refine .inr ⟨l, Pv (i + 1), fun H' p' => ⟨z.cps.size - (i + 1), by omega, rfl, l, p'⟩, ?_⟩
    rintro x _ ⟨rfl, c, e, rfl⟩
    exact hs i c _ e p
  · obtain rfl : i = z.cps.size := by omega
    exact .inl ⟨Nat.le_refl _, hd H p⟩
end Vx

namespace Vx
open PySem PySem.Spec PyProof.Rows L2
/-! what the look at a formula's form sees of a value -/
inductive Sk where
  | s (x : Str)
  | i (n : Int)
  | o
  | t (xs : List Sk)
namespace Sk
mutual
def size : Sk → Nat
  | .t xs => sizes xs + 1
  | _ => 1
def sizes : List Sk → Nat
  | [] => 0
  | x :: r => x.size + sizes r
end
def opc (w : Str) : Option Nat := if w = "plus" then some 2 else if w = "minus" then some 2 else if w = "times" then some 2 else if w = "not" then some 1 else if w = "and" then some 2 else if w = "or" then some 2 else none
def built (q : Int) : Sk → Bool
  | .s x => nameB x
  | .i n => decide (0 ≤ n) && decide (n < q)
  | .o => false
  | .t (.s w :: r) => decide (opc w = some r.length)
  | .t _ => false
mutual
/-- the first part that is not well formed, outer parts first -/
def bad (q : Int) : Sk → List Int → Option (List Int)
  | .t (x :: r), p => if built q (.t (x :: r)) = true then bads q r p 1 else some p
  | a, p => if built q a = true then none else some p
def bads (q : Int) : List Sk → List Int → Nat → Option (List Int)
  | [], _, _ => none
  | x :: r, p, k => match bad q x (p ++ [(k : Int)]) with
    | some z => some z
    | none => bads q r p (k + 1)
end
mutual
def leaves : Sk → Nat
  | .t (_ :: r) => leavesL r
  | _ => 1
def leavesL : List Sk → Nat
  | [] => 0
  | x :: r => x.leaves + leavesL r
end
mutual
def tups : Sk → Nat
  | .t (_ :: r) => tupsL r + 1
  | .t [] => 1
  | _ => 0
def tupsL : List Sk → Nat
  | [] => 0
  | x :: r => x.tups + tupsL r
end
mutual
def depth : Sk → Nat
  | .t (_ :: r) => depthL r + 1
  | .t [] => 1
  | _ => 0
def depthL : List Sk → Nat
  | [] => 0
  | x :: r => max x.depth (depthL r)
end
/-- None, ("form", path), ("size", ()) -/
def res (q : Int) (a : Sk) : Option (Option (List Int)) := match a.bad q [] with
  | some p => some (some p)
  | none => if a.leaves > 8 ∨ a.tups > 16 ∨ a.depth > 12 then some none else none
def resD : Option (Option (List Int)) → PyData
  | none => .none
  | some (some p) => .tuple [.str "form", .tuple (p.map PyData.int)]
  | some none => .tuple [.str "size", .tuple []]
/-! the parts that wait: the first one is looked at next -/
abbrev Wt := List (Sk × List Int)
def badW (q : Int) : Wt → Option (List Int)
  | [] => none
  | (a, p) :: r => match bad q a p with
    | some z => some z
    | none => badW q r
def leavesW : Wt → Nat
  | [] => 0
  | (a, _) :: r => a.leaves + leavesW r
def tupsW : Wt → Nat
  | [] => 0
  | (a, _) :: r => a.tups + tupsW r
def depthW : Wt → Nat
  | [] => 0
  | (a, p) :: r => max (if a.depth = 0 then 0 else p.length + a.depth) (depthW r)
def sizeW : Wt → Nat
  | [] => 0
  | (a, _) :: r => a.size + sizeW r
def kids (p : List Int) : Nat → List Sk → Wt
  | _, [] => []
  | k, x :: r => (x, p ++ [(k : Int)]) :: kids p (k + 1) r
theorem badW_kids (q : Int) (p : List Int) (rest : Wt) : ∀ (r : List Sk) (k : Nat), badW q (kids p k r ++ rest) = match bads q r p k with | some z => some z | none => badW q rest
  | [], k => rfl
  | x :: r, k => by
    show (match bad q x (p ++ [(k : Int)]) with | some z => some z | none => badW q (kids p (k + 1) r ++ rest)) = _
    rw [bads]
    cases bad q x (p ++ [(k : Int)]) with
    | some z => rfl
    | none => exact badW_kids q p rest r (k + 1)
theorem leavesW_kids (p : List Int) (rest : Wt) : ∀ (r : List Sk) (k : Nat), leavesW (kids p k r ++ rest) = leavesL r + leavesW rest
  | [], k => by rw [leavesL, Nat.zero_add]; rfl
  | x :: r, k => by
    show x.leaves + leavesW (kids p (k + 1) r ++ rest) = _
    rw [leavesW_kids p rest r (k + 1), leavesL]
    omega
theorem tupsW_kids (p : List Int) (rest : Wt) : ∀ (r : List Sk) (k : Nat), tupsW (kids p k r ++ rest) = tupsL r + tupsW rest
  | [], k => by rw [tupsL, Nat.zero_add]; rfl
  | x :: r, k => by
    show x.tups + tupsW (kids p (k + 1) r ++ rest) = _
    rw [tupsW_kids p rest r (k + 1), tupsL]
    omega
theorem sizeW_kids (p : List Int) (rest : Wt) : ∀ (r : List Sk) (k : Nat), sizeW (kids p k r ++ rest) = sizes r + sizeW rest
  | [], k => by rw [sizes, Nat.zero_add]; rfl
  | x :: r, k => by
    show x.size + sizeW (kids p (k + 1) r ++ rest) = _
    rw [sizeW_kids p rest r (k + 1), sizes]
    omega
theorem depthW_kids (p : List Int) (rest : Wt) : ∀ (r : List Sk) (k : Nat), depthW (kids p k r ++ rest) = max (if depthL r = 0 then 0 else p.length + 1 + depthL r) (depthW rest)
  | [], k => by
    show depthW rest = _
    rw [depthL, if_pos rfl]
    omega
  | x :: r, k => by
    show max (if x.depth = 0 then 0 else (p ++ [(k : Int)]).length + x.depth) (depthW (kids p (k + 1) r ++ rest)) = _
    rw [depthW_kids p rest r (k + 1), depthL, List.length_append]
    simp only [List.length_cons, List.length_nil]
    repeat (first | split | omega)
theorem kids_len (p : List Int) : ∀ (r : List Sk) (k : Nat), (kids p k r).length = r.length
  | [], _ => rfl
  | x :: r, k => congrArg (· + 1) (kids_len p r (k + 1))
theorem size_pos : ∀ a : Sk, 0 < a.size
  | .s _ => by rw [size]; exact Nat.one_pos; all_goals intro xs h; cases h
  | .i _ => by rw [size]; exact Nat.one_pos; all_goals intro xs h; cases h
  | .o => by rw [size]; exact Nat.one_pos; all_goals intro xs h; cases h
  | .t xs => by rw [size]; omega
theorem sizes_len : ∀ r : List Sk, r.length ≤ sizes r
  | [] => Nat.zero_le _
  | x :: r => by
    have h1 := size_pos x
    have h2 := sizes_len r
    rw [sizes, List.length_cons]
    omega
theorem sizeW_len : ∀ r : Wt, r.length ≤ sizeW r
  | [] => Nat.zero_le _
  | (x, p) :: r => by
    have h1 := size_pos x
    have h2 := sizeW_len r
    show r.length + 1 ≤ x.size + sizeW r
    omega
end Sk
end Vx

namespace Vx
open PySem PySem.Spec PyProof.Rows L2
theorem if_true_of {c : Bool} {A B : Prop} (hc : c = true) (h : A) : if c = true then A else B := by
  rw [if_pos hc]; exact h
theorem if_false_of {c : Bool} {A B : Prop} (hc : c = false) (h : B) : if c = true then A else B := by
  rw [if_neg (by rw [hc]; exact Bool.false_ne_true)]; exact h
theorem iteT_inv {A B : Prop} (h : if true = true then A else B) : A := by rwa [if_pos rfl] at h
theorem iteF_inv {A B : Prop} (h : if false = true then A else B) : B := by rwa [if_neg Bool.false_ne_true] at h
/-- neither a text, a number nor a tuple -/
def Oth (K : PySem.W.Frag) (H : Hp) (v : V) : Prop := v = .non ∨ (∃ b, v = .bl b) ∨ (∃ a xs, v = .ref a ∧ SqL K H a xs) ∨ ∃ a kvs, v = .ref a ∧ H a = some (.dK kvs)
mutual
inductive Sv (K : PySem.W.Frag) (H : Hp) : V → Sk → Prop
  | str (x : Str) (h : x.cps.size ≤ 100000) : Sv K H (.str x) (.s x)
  | int (n : Int) : Sv K H (.int n) (.i n)
  | oth {v : V} : Oth K H v → Sv K H v .o
  | tup {a : Addr} {xs : List V} {ds : List Sk} : SqT K H a xs → SvAll K H xs ds → Sv K H (.ref a) (.t ds)
inductive SvAll (K : PySem.W.Frag) (H : Hp) : List V → List Sk → Prop
  | nil : SvAll K H [] []
  | cons {v : V} {vs : List V} {d : Sk} {ds : List Sk} : Sv K H v d → SvAll K H vs ds → SvAll K H (v :: vs) (d :: ds)
end
/-- what stands is kept: tuples as they are, lists stay lists, dicts dicts -/
structure Kp (K : PySem.W.Frag) (H H' : Hp) : Prop where
  tup : ∀ a xs, SqT K H a xs → SqT K H' a xs
  oth : ∀ v, Oth K H v → Oth K H' v
theorem Kp.refl (K : PySem.W.Frag) (H : Hp) : Kp K H H := ⟨fun _ _ h => h, fun _ h => h⟩
theorem Kp.trans {K : PySem.W.Frag} {H H1 H2 : Hp} (a : Kp K H H1) (b : Kp K H1 H2) : Kp K H H2 := ⟨fun x xs h => b.tup x xs (a.tup x xs h), fun v h => b.oth v (a.oth v h)⟩
theorem Kp.same {K : PySem.W.Frag} {H H' : Hp} (s : Same H H') : Kp K H H' := ⟨fun _ _ h => Same.seqT s h, fun v h => by
  rcases h with h | h | ⟨a, xs, e, h⟩ | ⟨a, kvs, e, h⟩
  · exact .inl h
  · exact .inr (.inl h)
  · exact .inr (.inr (.inl ⟨a, xs, e, s.seq h⟩))
  · exact .inr (.inr (.inr ⟨a, kvs, e, s _ _ h⟩))⟩
theorem Kp.new {K : PySem.W.Frag} {H : Hp} {p : Addr} (n : H p = none) (o : HO) : Kp K H (upd H p o) := .same (same_new n o)
theorem Kp.list {K : PySem.W.Frag} {H : Hp} {p : Addr} {xs : List V} (e : H p = some (.lst xs)) (ys : List V) : Kp K H (upd H p (.lst ys)) := ⟨fun _ _ h => Chg.tup (.inl ⟨_, e⟩) .upd h, fun v h => by
  rcases h with h | h | ⟨a, zs, e2, h⟩ | ⟨a, kvs, e2, h⟩
  · exact .inl h
  · exact .inr (.inl h)
  · by_cases q : a = p
    · subst q; exact .inr (.inr (.inl ⟨a, ys, e2, SqL.of upd_same⟩))
    · exact .inr (.inr (.inl ⟨a, zs, e2, sq_ne h q⟩))
  · by_cases q : a = p
    · subst q; rw [e] at h; cases h
    · exact .inr (.inr (.inr ⟨a, kvs, e2, by rw [upd_ne q]; exact h⟩))⟩
mutual
theorem Sv.kp {K : PySem.W.Frag} {H H' : Hp} (k : Kp K H H') : ∀ {v : V} {d : Sk}, Sv K H v d → Sv K H' v d
  | _, _, .str x h => .str x h
  | _, _, .int n => .int n
  | _, _, .oth h => .oth (k.oth _ h)
  | _, _, .tup h r => .tup (k.tup _ _ h) (SvAll.kp k r)
theorem SvAll.kp {K : PySem.W.Frag} {H H' : Hp} (k : Kp K H H') : ∀ {vs : List V} {ds : List Sk}, SvAll K H vs ds → SvAll K H' vs ds
  | _, _, .nil => .nil
  | _, _, .cons h r => .cons (Sv.kp k h) (SvAll.kp k r)
end
theorem SvAll.len {K : PySem.W.Frag} {H : Hp} : ∀ {vs : List V} {ds : List Sk}, SvAll K H vs ds → vs.length = ds.length
  | _, _, .nil => rfl
  | _, _, .cons _ r => congrArg (· + 1) r.len
theorem SvAll.get {K : PySem.W.Frag} {H : Hp} : ∀ {vs : List V} {ds : List Sk} {i : Nat} {d : Sk}, SvAll K H vs ds → ds[i]? = some d → ∃ v, vs[i]? = some v ∧ Sv K H v d
  | [], [], i, d, .nil, h => by simp at h
  | v :: _, _ :: _, 0, d, .cons h _, e => ⟨v, rfl, by rw [← Option.some.inj e]; exact h⟩
  | _ :: vs, _ :: ds, i + 1, d, .cons _ r, e => SvAll.get (vs := vs) (ds := ds) (i := i) r e
theorem sv_s {K : PySem.W.Frag} {H : Hp} {v : V} {x : Str} (h : Sv K H v (.s x)) : v = .str x ∧ x.cps.size ≤ 100000 := by
  cases h with
  | str _ h => exact ⟨rfl, h⟩
theorem sv_i {K : PySem.W.Frag} {H : Hp} {v : V} {n : Int} (h : Sv K H v (.i n)) : v = .int n := by cases h; rfl
theorem sv_o {K : PySem.W.Frag} {H : Hp} {v : V} (h : Sv K H v .o) : Oth K H v := by
  cases h with
  | oth h => exact h
theorem sv_t {K : PySem.W.Frag} {H : Hp} {v : V} {ds : List Sk} (h : Sv K H v (.t ds)) : ∃ a xs, v = .ref a ∧ SqT K H a xs ∧ SvAll K H xs ds := by
  cases h with
  | tup h r => exact ⟨_, _, rfl, h, r⟩
theorem ty_lst {K : PySem.W.Frag} {H : Hp} {a : Addr} {xs : List V} (h : SqL K H a xs) : TyX K H (.ref a) (.type "list") := by
  rcases h with (h | ⟨o, h⟩) | ⟨o, its, n, hk, hc, _⟩
  · exact .base (.lst h)
  · exact .base (.frz h)
  · exact .kList hk hc
/-- the name of a value's type -/
def Sk.ty : Sk → String → Prop
  | .s _, n => n = "str"
  | .i _, n => n = "int"
  | .o, n => n = "NoneType" ∨ n = "bool" ∨ n = "list" ∨ n = "dict"
  | .t _, n => n = "tuple"
theorem sv_ty {K : PySem.W.Frag} {H : Hp} {v : V} {d : Sk} (h : Sv K H v d) : ∃ t, d.ty t ∧ TyX K H v (.type t) := by
  cases h with
  | str x _ => exact ⟨_, rfl, .base (.str x)⟩
  | int n => exact ⟨_, rfl, .base (.int n)⟩
  | tup h _ => exact ⟨_, rfl, ty_tup h⟩
  | oth h =>
    rcases h with rfl | ⟨b, rfl⟩ | ⟨a, xs, rfl, h⟩ | ⟨a, kvs, rfl, h⟩
    · exact ⟨_, .inl rfl, .base .non⟩
    · exact ⟨_, .inr (.inl rfl), .base (.bl b)⟩
    · exact ⟨_, .inr (.inr (.inl rfl)), ty_lst h⟩
    · exact ⟨_, .inr (.inr (.inr rfl)), .base (.dK h)⟩
def Sk.isT : Sk → Bool
  | .t _ => true
  | _ => false
def Sk.isS : Sk → Bool
  | .s _ => true
  | _ => false
def Sk.isI : Sk → Bool
  | .i _ => true
  | _ => false
/-- isinstance(v, tuple), (v, str); bool, int: a bool is an int -/
theorem isi_t {K : PySem.W.Frag} {H : Hp} {v : V} {d : Sk} (h : Sv K H v d) : ∃ t, TyX K H v t ∧ PySem.W.kitOne K t (.type "tuple") = some d.isT := by
  obtain ⟨t, ht, hx⟩ := sv_ty h
  refine ⟨_, hx, ?_⟩
  cases d <;> unfold Sk.ty at ht
  all_goals first
    | (subst ht; first | (show _ = some true; exact kit_ty (by decide +kernel)) | (show _ = some false; exact kit_ty (by decide +kernel)))
    | (rcases ht with rfl | rfl | rfl | rfl <;> (show _ = some false; exact kit_ty (by decide +kernel)))
theorem isi_s {K : PySem.W.Frag} {H : Hp} {v : V} {d : Sk} (h : Sv K H v d) : ∃ t, TyX K H v t ∧ PySem.W.kitOne K t (.type "str") = some d.isS := by
  obtain ⟨t, ht, hx⟩ := sv_ty h
  refine ⟨_, hx, ?_⟩
  cases d <;> unfold Sk.ty at ht
  all_goals first
    | (subst ht; first | (show _ = some true; exact kit_ty (by decide +kernel)) | (show _ = some false; exact kit_ty (by decide +kernel)))
    | (rcases ht with rfl | rfl | rfl | rfl <;> (show _ = some false; exact kit_ty (by decide +kernel)))
theorem isi_b {K : PySem.W.Frag} {H : Hp} {v : V} {d : Sk} (h : Sv K H v d) : ∃ t b c, TyX K H v t ∧ PySem.W.kitOne K t (.type "bool") = some b ∧ PySem.W.kitOne K t (.type "int") = some c ∧ (b || !c) = !d.isI := by
  obtain ⟨t, ht, hx⟩ := sv_ty h
  cases d <;> unfold Sk.ty at ht
  · subst ht; exact ⟨_, false, false, hx, kit_ty (by decide +kernel), kit_ty (by decide +kernel), rfl⟩
  · subst ht; exact ⟨_, false, true, hx, kit_ty (by decide +kernel), kit_ty (by decide +kernel), rfl⟩
  · rcases ht with rfl | rfl | rfl | rfl
    · exact ⟨_, false, false, hx, kit_ty (by decide +kernel), kit_ty (by decide +kernel), rfl⟩
    · exact ⟨_, true, true, hx, kit_ty (by decide +kernel), kit_ty (by decide +kernel), rfl⟩
    · exact ⟨_, false, false, hx, kit_ty (by decide +kernel), kit_ty (by decide +kernel), rfl⟩
    · exact ⟨_, false, false, hx, kit_ty (by decide +kernel), kit_ty (by decide +kernel), rfl⟩
  · subst ht; exact ⟨_, false, false, hx, kit_ty (by decide +kernel), kit_ty (by decide +kernel), rfl⟩
/-! the parts that wait, as the heap has them -/
def En (K : PySem.W.Frag) (H : Hp) (v : V) (e : Sk × List Int) : Prop := ∃ (a pt : Addr) (u : V), v = .ref a ∧ SqT K H a [u, .ref pt] ∧ SqT K H pt (e.2.map V.int) ∧ Sv K H u e.1
theorem En.kp {K : PySem.W.Frag} {H H' : Hp} {v : V} {e : Sk × List Int} (k : Kp K H H') (h : En K H v e) : En K H' v e := by
  obtain ⟨a, pt, u, rfl, h1, h2, h3⟩ := h
  exact ⟨a, pt, u, rfl, k.tup _ _ h1, k.tup _ _ h2, Sv.kp k h3⟩
def Ens (K : PySem.W.Frag) (H : Hp) : List V → Sk.Wt → Prop := Paired (En K H)
theorem Ens.kp {K : PySem.W.Frag} {H H' : Hp} (k : Kp K H H') : ∀ {vs : List V} {es : Sk.Wt}, Ens K H vs es → Ens K H' vs es
  | _, _, .nil => .nil
  | _, _, .cons h r => .cons (h.kp k) (Ens.kp k r)
theorem last_of (y : V) (vs : List V) : (y :: vs).reverse[(y :: vs).reverse.length - 1]? = some y := by
  rw [List.reverse_cons, List.length_append, List.length_singleton, Nat.add_sub_cancel, List.getElem?_append_right (Nat.le_refl _), Nat.sub_self]
  rfl
theorem drop_of (y : V) (vs : List V) : (y :: vs).reverse.dropLast = vs.reverse := by
  rw [List.reverse_cons, List.dropLast_concat]
mutual
/-- a formula's skeleton -/
def Fml.sk : Fml → Sk
  | .var x => .s x
  | .num i => .i i
  | .neg a => .t [.s "not", a.sk]
  | .bin w a b => .t [.s w, a.sk, b.sk]
end
theorem dp_sv {K : PySem.W.Frag} {H : Hp} : ∀ {F : Fml} {v : V}, Dp K H v F.d → (∀ x ∈ F.nms, x.cps.size ≤ 100000) → F.ok → Sv K H v F.sk
  | .var x, v, h, l, _ => by
    obtain rfl := dp_str h
    exact .str x (l x (List.mem_singleton.mpr rfl))
  | .num i, v, h, _, _ => by
    obtain rfl := dp_int h
    exact .int i
  | .neg a, v, h, l, ok => by
    obtain ⟨t, u, rfl, hT, hu⟩ := dp_neg h
    rw [Fml.sk]
    exact .tup hT (.cons (.str _ (by decide +kernel)) (.cons (dp_sv hu l ok) .nil))
  | .bin w a b, v, h, l, ok => by
    obtain ⟨t, u, u2, rfl, hT, hu, hu2⟩ := dp_bin h
    rw [Fml.sk]
    have hw : w.cps.size ≤ 100000 := by
      rcases ok.1 with rfl | rfl | rfl | rfl | rfl <;> decide +kernel
    exact .tup hT (.cons (.str _ hw) (.cons (dp_sv hu (fun x hx => l x (List.mem_append_left _ hx)) ok.2.1) (.cons (dp_sv hu2 (fun x hx => l x (List.mem_append_right _ hx)) ok.2.2) .nil)))
end Vx

namespace Vx
open PySem PySem.Spec PyProof.Rows L2
/-! formulas counted, and their skeletons -/
theorem sk_cnt : ∀ F : Fml, F.sk.leaves = F.lvs ∧ F.sk.tups = F.tps ∧ F.sk.depth = F.dep ∧ F.sk.size = F.lvs + 2 * F.tps
  | .var x => ⟨rfl, rfl, rfl, rfl⟩
  | .num i => ⟨rfl, rfl, rfl, rfl⟩
  | .neg a => by
    obtain ⟨h1, h2, h3, h4⟩ := sk_cnt a
    have e : (Sk.s "not").size = 1 := rfl
    rw [Fml.sk, Sk.leaves, Sk.tups, Sk.depth, Sk.size]
    refine ⟨?_, ?_, ?_, ?_⟩
    · show a.sk.leaves + 0 = a.lvs; omega
    · show a.sk.tups + 0 + 1 = a.tps + 1; omega
    · show max a.sk.depth 0 + 1 = a.dep + 1; omega
    · show (Sk.s "not").size + (a.sk.size + 0) + 1 = a.lvs + 2 * (a.tps + 1); omega
  | .bin w a b => by
    obtain ⟨h1, h2, h3, h4⟩ := sk_cnt a
    obtain ⟨k1, k2, k3, k4⟩ := sk_cnt b
    have e : (Sk.s w).size = 1 := rfl
    rw [Fml.sk, Sk.leaves, Sk.tups, Sk.depth, Sk.size]
    refine ⟨?_, ?_, ?_, ?_⟩
    · show a.sk.leaves + (b.sk.leaves + 0) = a.lvs + b.lvs; omega
    · show a.sk.tups + (b.sk.tups + 0) + 1 = a.tps + b.tps + 1; omega
    · show max a.sk.depth (max b.sk.depth 0) + 1 = max a.dep b.dep + 1; omega
    · show (Sk.s w).size + (a.sk.size + (b.sk.size + 0)) + 1 = a.lvs + b.lvs + 2 * (a.tps + b.tps + 1); omega
theorem opc_w {w : Str} (h : Fml.isW w) : Sk.opc w = some 2 := by
  rcases h with rfl | rfl | rfl | rfl | rfl <;> decide +kernel
theorem opc_not : Sk.opc "not" = some 1 := by decide +kernel
theorem sk_bad {q : Int} : ∀ {F : Fml} (p : List Int), F.ok → F.lok q → Sk.bad q F.sk p = none
  | .var x, p, _, l => by
    have : Sk.built q (.s x) = true := l
    rw [Fml.sk, Sk.bad, if_pos this]
    intro x r h; cases h
  | .num i, p, _, l => by
    have : Sk.built q (.i i) = true := by
      show (decide (0 ≤ i) && decide (i < q)) = true
      rw [decide_eq_true l.1, decide_eq_true l.2]; rfl
    rw [Fml.sk, Sk.bad, if_pos this]
    intro x r h; cases h
  | .neg a, p, o, l => by
    have : Sk.built q (.t [.s "not", a.sk]) = true := decide_eq_true opc_not
    rw [Fml.sk, Sk.bad, if_pos this, Sk.bads, sk_bad (F := a) (p ++ [((1 : Nat) : Int)]) o l, Sk.bads]
  | .bin w a b, p, o, l => by
    have : Sk.built q (.t [.s w, a.sk, b.sk]) = true := decide_eq_true (opc_w o.1)
    rw [Fml.sk, Sk.bad, if_pos this, Sk.bads, sk_bad (F := a) (p ++ [((1 : Nat) : Int)]) o.2.1 l.1]
    show Sk.bads q [b.sk] p 2 = none
    rw [Sk.bads, sk_bad (F := b) (p ++ [((2 : Nat) : Int)]) o.2.2 l.2, Sk.bads]
theorem res_ok {q : Int} {F : Fml} (o : F.ok) (l : F.lok q) : Sk.res q F.sk = if F.lvs > 8 ∨ F.tps > 16 ∨ F.dep > 12 then some none else none := by
  obtain ⟨h1, h2, h3, _⟩ := sk_cnt F
  unfold Sk.res
  rw [sk_bad [] o l, h1, h2, h3]
theorem fml_sv {K : PySem.W.Frag} {H : Hp} {F : Fml} {v : V} {q : Int} (h : Dp K H v F.d) (o : F.ok) (l : F.lok q) : Sv K H v F.sk :=
  dp_sv h (fun x hx => Nat.le_trans (nameB_low (Fml.lok_nms l x hx)).2 (by decide)) o
def negs : Nat → Fml → Fml
  | 0, F => F
  | n + 1, F => .neg (negs n F)
theorem negs_cnt (n : Nat) (F : Fml) : (negs n F).lvs = F.lvs ∧ (negs n F).tps = F.tps + n ∧ (negs n F).dep = F.dep + n := by
  induction n with
  | zero => exact ⟨rfl, rfl, rfl⟩
  | succ n ih =>
    obtain ⟨h1, h2, h3⟩ := ih
    exact ⟨h1, by show (negs n F).tps + 1 = _; omega, by show (negs n F).dep + 1 = _; omega⟩
theorem negs_ok {F : Fml} (h : F.ok) : ∀ n, (negs n F).ok
  | 0 => h
  | n + 1 => negs_ok h n
theorem negs_lok {q : Int} {F : Fml} (h : F.lok q) : ∀ n, (negs n F).lok q
  | 0 => h
  | n + 1 => negs_lok h n
theorem negs_nms {F : Fml} : ∀ n, (negs n F).nms = F.nms
  | 0 => rfl
  | n + 1 => negs_nms n
/-- the path through n negations -/
theorem negs_bad {q : Int} (F : Fml) : ∀ (n : Nat) (p : List Int), Sk.bad q (negs n F).sk p = Sk.bad q F.sk (p ++ List.replicate n 1)
  | 0, p => by rw [List.replicate_zero, List.append_nil]; rfl
  | n + 1, p => by
    have : Sk.built q (.t [.s "not", (negs n F).sk]) = true := decide_eq_true opc_not
    show Sk.bad q (Fml.neg (negs n F)).sk p = _
    rw [Fml.sk, Sk.bad, if_pos this, Sk.bads, negs_bad F n, Sk.bads, List.replicate_succ, List.append_assoc]
    show (match Sk.bad q F.sk (p ++ ([((1 : Nat) : Int)] ++ List.replicate n 1)) with | some z => some z | none => none) = Sk.bad q F.sk (p ++ 1 :: List.replicate n 1)
    cases c : Sk.bad q F.sk (p ++ ([((1 : Nat) : Int)] ++ List.replicate n 1)) with
    | none => exact c.symm
    | some z => exact c.symm
def szD : PyData := .tuple [.str "size", .tuple []]
def dueD (n : Nat) (b : Nat) : PyData := if n > b then szD else .none
theorem due_shaped (n b : Nat) : SeqAt.shaped (dueD n b) = true := by
  unfold dueD
  split
  · decide +kernel
  · decide +kernel
theorem due_noL (n b : Nat) : noL (dueD n b) = true := by
  unfold dueD
  split <;> rfl
theorem res_due {q : Int} {F : Fml} (o : F.ok) (l : F.lok q) {n b : Nat} (h : (F.lvs > 8 ∨ F.tps > 16 ∨ F.dep > 12) ↔ n > b) : Sk.resD (Sk.res q F.sk) = dueD n b := by
  rw [res_ok o l]
  unfold dueD
  by_cases c : n > b
  · rw [if_pos c, if_pos (h.mpr c)]; rfl
  · rw [if_neg c, if_neg (fun z => c (h.mp z))]; rfl
/-- data by places -/
theorem dpAll_at {K : PySem.W.Frag} {H : Hp} : ∀ {vs : List V} {ds : List PyData}, vs.length = ds.length → (∀ (i : Nat) v d, vs[i]? = some v → ds[i]? = some d → Dp K H v d) → DpAll K H vs ds
  | [], [], _, _ => .nil
  | v :: vs, d :: ds, hl, h => .cons (h 0 v d rfl rfl) (dpAll_at (by simpa using hl) fun i a b e f => h (i + 1) a b e f)
  | [], _ :: _, hl, _ => by simp at hl
  | _ :: _, [], hl, _ => by simp at hl
theorem dp_at {K : PySem.W.Frag} {H : Hp} {vs : List V} {ds : List PyData} {i : Nat} {v : V} {d : PyData} (h : DpAll K H vs ds) (e : vs[i]? = some v) (f : ds[i]? = some d) : Dp K H v d := by
  obtain ⟨u, hu, hd⟩ := DpAll.get h f
  rw [e] at hu
  rw [Option.some.inj hu]
  exact hd
theorem dp_put {K : PySem.W.Frag} {H : Hp} {vs : List V} {ds ds2 : List PyData} {j : Nat} {y : V} (h : DpAll K H vs ds) (hl : ds2.length = ds.length) (ho : ∀ i, i ≠ j → ds2[i]? = ds[i]?) (hj : ∀ d, ds2[j]? = some d → Dp K H y d) : DpAll K H (vs.set j y) ds2 := by
  have l := DpAll.len h
  refine dpAll_at (by rw [List.length_set]; omega) fun i v d e f => ?_
  by_cases c : i = j
  · subst c
    have : i < vs.length := by have := (List.getElem?_eq_some_iff.mp f).1; omega
    rw [List.getElem?_set_self this] at e
    obtain rfl := Option.some.inj e
    exact hj d f
  · rw [List.getElem?_set_ne (Ne.symm c)] at e
    rw [ho i c] at f
    exact dp_at h e f
/-- a comprehension over a range with a step -/
theorem lc_rangeC {lo c : Int} {n : Nat} {g : TG} {tt : TT} {te : TE} {vs : List Nat} {σ : L2.St} {H1 : Hp} {D : Addr} {Qd : Hp → Prop} (Pv : Nat → Hp → Prop) (h0 : Pv 0 (upd H1 D (.lst [])))
    (hs : ∀ i H, i < n → Pv i H → g (.int (lo + (i : Nat) * c)) (wipe σ vs) H fun σ2 H2 => wipe σ2 vs = wipe σ vs ∧ tt σ2 H2 fun b H3 =>
      if b = true then te σ2 H3 fun y H4 => ∃ acc, H4 D = some (.lst acc) ∧ acc.length < sizeLine ∧ Pv (i + 1) (upd H4 D (.lst (acc ++ [y]))) else Pv (i + 1) H3) (hd : ∀ H, Pv n H → Qd H) :
    ∃ W : Nat → Nat → Hp → Prop, (∃ m, W 0 m (upd H1 D (.lst []))) ∧ ∀ i m H, W i m H →
      ((Itc lo c n).stop i H ∧ Qd H) ∨ ((Itc lo c n).go i H ∧ ∃ Nx : Hp → Prop, (∀ H', Nx H' → ∃ m', m' < m ∧ W (i + 1) m' H') ∧ ∀ x H', (Itc lo c n).yld i H x H' → g x (wipe σ vs) H' fun σ2 H2 => wipe σ2 vs = wipe σ vs ∧ tt σ2 H2 fun b H3 =>
        if b = true then te σ2 H3 fun y H4 => ∃ acc, H4 D = some (.lst acc) ∧ acc.length < sizeLine ∧ Nx (upd H4 D (.lst (acc ++ [y]))) else Nx H3) := by
  refine ⟨fun i m H => m = n - i ∧ i ≤ n ∧ Pv i H, ⟨_, rfl, Nat.zero_le _, h0⟩, ?_⟩
  rintro i m H ⟨rfl, hi, p⟩
  by_cases l : i < n
  · refine .inr ⟨l, Pv (i + 1), fun H' p' => ⟨n - (i + 1), by omega, rfl, l, p'⟩, ?_⟩
    rintro x _ ⟨rfl, rfl⟩
    exact hs i _ l p
  · obtain rfl : i = n := by omega
    exact .inl ⟨Nat.le_refl _, hd H p⟩
theorem lc_rangeCD {K : PySem.W.Frag} {lo c : Int} {n j : Nat} {te : TE} {vs : List Nat} {σ : L2.St} {H1 : Hp} {D : Addr} {Qd : Hp → Prop} (G : Hp → Prop) (f : Nat → PyData → Prop) (hn : n ≤ 100000) (h0 : G (upd H1 D (.lst [])))
    (hw : ∀ v, wipe ((wipe σ vs).set j (some v)) vs = wipe σ vs)
    (hs : ∀ i H', i < n → Made K D f G i H' → ∀ Q : VK, (∀ y d H4, Stay K D H' H4 → noL d = true → Dp K H4 y d → f i d → (∀ acc, G (upd H4 D (.lst acc))) → Q y H4) → te ((wipe σ vs).set j (some (.int (lo + (i : Nat) * c)))) H' Q)
    (hd : ∀ H, Made K D f G n H → Qd H) :
    LcOf (Itc lo c n) j te vs σ H1 D Qd := by
  refine lc_rangeC (Made K D f G) (.start h0) (fun i H' hi m => ?_) hd
  refine ⟨hw _, ?_⟩
  show te _ H' _
  exact hs i H' hi m _ fun y d H4 s no hd hf g => m.next s no hd hf (by omega) g
/-- eight formulas -/
def sm8 (fs : Nat → Fml) : Nat := (fs 0).tps + (fs 1).tps + (fs 2).tps + (fs 3).tps + (fs 4).tps + (fs 5).tps + (fs 6).tps + (fs 7).tps
def putG (fs : Nat → Fml) (j : Nat) (F : Fml) : Nat → Fml := fun i => if i = j then F else fs i
theorem sm8_put (fs : Nat → Fml) {j : Nat} (h : j < 8) : sm8 (putG fs j (.neg (fs j))) = sm8 fs + 1 := by
  have c : j = 0 ∨ j = 1 ∨ j = 2 ∨ j = 3 ∨ j = 4 ∨ j = 5 ∨ j = 6 ∨ j = 7 := by omega
  have e : (Fml.neg (fs j)).tps = (fs j).tps + 1 := rfl
  rcases c with rfl | rfl | rfl | rfl | rfl | rfl | rfl | rfl <;> simp [sm8, putG, e] <;> omega
end Vx

namespace Vx
open PySem PySem.Spec PyProof.Rows L2
/-! any values: as Dp, and the empty dict; no list among them is the pen, none stands at the modules' place -/
mutual
inductive Dx (K : PySem.W.Frag) (p : Addr) (H : Hp) : V → PyData → Prop
  | non : Dx K p H .non .none
  | bl (b : Bool) : Dx K p H (.bl b) (.bool b)
  | int (i : Int) : Dx K p H (.int i) (.int i)
  | str (x : Str) : Dx K p H (.str x) (.str x)
  | lst {a : Addr} {xs : List V} {ds : List PyData} : a ≠ p → a ≠ sysModules → SqL K H a xs → DxAll K p H xs ds → Dx K p H (.ref a) (.list ds)
  | tup {a : Addr} {xs : List V} {ds : List PyData} : SqT K H a xs → DxAll K p H xs ds → Dx K p H (.ref a) (.tuple ds)
  | emp {a : Addr} : a ≠ p → H a = some (.dK []) → Dx K p H (.ref a) (.dict [])
inductive DxAll (K : PySem.W.Frag) (p : Addr) (H : Hp) : List V → List PyData → Prop
  | nil : DxAll K p H [] []
  | cons {v : V} {vs : List V} {d : PyData} {ds : List PyData} : Dx K p H v d → DxAll K p H vs ds → DxAll K p H (v :: vs) (d :: ds)
end
theorem DxAll.len {K : PySem.W.Frag} {p : Addr} {H : Hp} : ∀ {vs : List V} {ds : List PyData}, DxAll K p H vs ds → vs.length = ds.length
  | _, _, .nil => rfl
  | _, _, .cons _ r => congrArg (· + 1) r.len
theorem DxAll.get {K : PySem.W.Frag} {p : Addr} {H : Hp} : ∀ {vs : List V} {ds : List PyData} {i : Nat} {d : PyData}, DxAll K p H vs ds → ds[i]? = some d → ∃ v, vs[i]? = some v ∧ Dx K p H v d
  | [], [], i, d, .nil, h => by simp at h
  | v :: _, _ :: _, 0, d, .cons h _, e => ⟨v, rfl, by rw [← Option.some.inj e]; exact h⟩
  | _ :: vs, _ :: ds, i + 1, d, .cons _ r, e => DxAll.get (vs := vs) (ds := ds) (i := i) r e
theorem DxAll.app {K : PySem.W.Frag} {p : Addr} {H : Hp} : ∀ {vs us : List V} {ds es : List PyData}, DxAll K p H vs ds → DxAll K p H us es → DxAll K p H (vs ++ us) (ds ++ es)
  | _, _, _, _, .nil, h => h
  | _, _, _, _, .cons a r, h => .cons a (r.app h)
theorem DxAll.cut {K : PySem.W.Frag} {p : Addr} {H : Hp} : ∀ {vs : List V} {ds : List PyData} (n : Nat), DxAll K p H vs ds → DxAll K p H (vs.take n) (ds.take n) ∧ DxAll K p H (vs.drop n) (ds.drop n)
  | _, _, 0, h => ⟨.nil, h⟩
  | [], [], _ + 1, .nil => ⟨.nil, .nil⟩
  | _ :: vs, _ :: ds, n + 1, .cons a r => ⟨.cons a (DxAll.cut n r).1, (DxAll.cut n r).2⟩
mutual
theorem Dx.but {K : PySem.W.Frag} {p : Addr} {H H' : Hp} (c : Chg H p) (s : But p H H') : ∀ {v : V} {d : PyData}, Dx K p H v d → Dx K p H' v d
  | _, _, .non => .non
  | _, _, .bl b => .bl b
  | _, _, .int i => .int i
  | _, _, .str x => .str x
  | _, _, .lst n m h r => .lst n m (But.seq s n h) (DxAll.but c s r)
  | _, _, .tup h r => .tup (Chg.tup c s h) (DxAll.but c s r)
  | _, _, .emp n h => .emp n (s _ _ n h)
theorem DxAll.but {K : PySem.W.Frag} {p : Addr} {H H' : Hp} (c : Chg H p) (s : But p H H') : ∀ {vs : List V} {ds : List PyData}, DxAll K p H vs ds → DxAll K p H' vs ds
  | _, _, .nil => .nil
  | _, _, .cons a r => .cons (Dx.but c s a) (DxAll.but c s r)
end
mutual
theorem Dx.same {K : PySem.W.Frag} {p : Addr} {H H' : Hp} (s : Same H H') : ∀ {v : V} {d : PyData}, Dx K p H v d → Dx K p H' v d
  | _, _, .non => .non
  | _, _, .bl b => .bl b
  | _, _, .int i => .int i
  | _, _, .str x => .str x
  | _, _, .lst n m h r => .lst n m (s.seq h) (DxAll.same s r)
  | _, _, .tup h r => .tup (Same.seqT s h) (DxAll.same s r)
  | _, _, .emp n h => .emp n (s _ _ h)
theorem DxAll.same {K : PySem.W.Frag} {p : Addr} {H H' : Hp} (s : Same H H') : ∀ {vs : List V} {ds : List PyData}, DxAll K p H vs ds → DxAll K p H' vs ds
  | _, _, .nil => .nil
  | _, _, .cons a r => .cons (Dx.same s a) (DxAll.same s r)
end
mutual
theorem Dx.of {K : PySem.W.Frag} {H : Hp} (p : Addr) : ∀ (d : PyData) (v : V), noL d = true → Dp K H v d → Dx K p H v d
  | .none, _, _, h => by cases h; exact .non
  | .bool b, _, _, h => by cases h; exact .bl b
  | .int i, _, _, h => by cases h; exact .int i
  | .str x, _, _, h => by cases h; exact .str x
  | .list ds, _, n, _ => by cases n
  | .dict kvs, _, _, h => by cases h
  | .tuple ds, _, n, h => by
    obtain ⟨a, xs, rfl, hs, hd⟩ := dp_tuple h
    exact .tup hs (DxAll.of p ds xs n hd)
theorem DxAll.of {K : PySem.W.Frag} {H : Hp} (p : Addr) : ∀ (ds : List PyData) (vs : List V), noLs ds = true → DpAll K H vs ds → DxAll K p H vs ds
  | [], _, _, h => by cases h; exact .nil
  | d :: ds, _, n, h => by
    cases h with
    | cons h1 h2 =>
      have n2 := (Bool.and_eq_true _ _).mp n
      exact .cons (Dx.of p d _ n2.1 h1) (DxAll.of p ds _ n2.2 h2)
end
/-! such values are read, and shown -/
section
variable {X : Cx} {pins : List (Addr × Obj)} {σ : L2.St} {H : Hp} {s : Shared} {p : Addr}
mutual
theorem Dx.reads (I : Inv X pins σ H s) : ∀ (d : PyData) (v : V) (u : Value), Dx X.K p H v d → RelV v u → ∃ as, Reads s.heap u d as ∧ sysModules ∉ as
  | .none, _, _, h, r => by
    cases h; cases r
    exact ⟨_, Reads.none, fun z => nomatch z⟩
  | .bool b, _, _, h, r => by
    cases h; cases r
    exact ⟨_, Reads.bool b, fun z => nomatch z⟩
  | .int i, _, _, h, r => by
    cases h
    obtain ⟨t, rfl⟩ := r
    exact ⟨_, Reads.int i t, fun z => nomatch z⟩
  | .str x, _, _, h, r => by
    cases h
    obtain ⟨t, rfl⟩ := r
    exact ⟨_, Reads.str x t, fun z => nomatch z⟩
  | .list ds, _, _, h, r => by
    cases h with
    | lst n m hs ha =>
      cases r
      obtain ⟨its, rv, ⟨o, n', ho, hc, _, hd⟩, _⟩ := I.list hs
      obtain ⟨as, hr, na⟩ := Dx.readsAll I ds _ its ha rv
      exact ⟨_, Reads.list ho hc hd hr, fun z => (List.mem_cons.mp z).elim (fun e => m e.symm) na⟩
  | .tuple ds, _, _, h, r => by
    cases h with
    | tup hs ha =>
      cases r
      obtain ⟨its, rv, ⟨o, ho, hc, n, hd⟩, _⟩ := I.tuple hs
      obtain ⟨as, hr, na⟩ := Dx.readsAll I ds _ its ha rv
      exact ⟨_, Reads.tuple ho hc hd hr, na⟩
  | .dict kvs, _, _, h, r => by
    cases h with
    | emp n he =>
      cases r
      obtain ⟨_, ns, vs, rk, o, es, ep, ho, hx, hd, _, hpr, _⟩ := I.hok _ _ he
      obtain ⟨r1, r2⟩ := plain_reads (h := s.heap) (kvs := []) (fun kv hkv => nomatch hkv) rk hpr
      exact ⟨_, Reads.dict (kvs := []) ho hx.1 hd r1 r2, fun z => by
        rw [List.append_nil, List.mem_singleton] at z
        rw [← z] at ns
        exact absurd ns (by decide)⟩
theorem Dx.readsAll (I : Inv X pins σ H s) : ∀ (ds : List PyData) (vs : List V) (us : List Value), DxAll X.K p H vs ds → Vals vs us → ∃ as, ReadsAll s.heap us ds as ∧ sysModules ∉ as
  | [], _, _, h, r => by
    cases h; cases r
    exact ⟨_, ReadsAll.nil, fun z => nomatch z⟩
  | d :: ds, _, _, h, r => by
    cases h with
    | cons h1 h2 =>
      cases r with
      | cons r1 r2 =>
        obtain ⟨as, q1, n1⟩ := Dx.reads I d _ _ h1 r1
        obtain ⟨bs, q2, n2⟩ := Dx.readsAll I ds _ _ h2 r2
        exact ⟨_, ReadsAll.cons q1 q2, fun z => (List.mem_append.mp z).elim n1 n2⟩
end
end
/-- not too large to be shown -/
structure Gd (d : PyData) (n m : Nat) : Prop where
  sh : d.showable = true
  lf : d.leavesShort 60 = true
  dp : d.depth ≤ n
  bk : d.bulk ≤ m
theorem Gd.len {d : PyData} {n m : Nat} (h : Gd d n m) (hm : m ≤ 200000) : d.shown.length ≤ sizeLine := by
  have h1 := PyData.shown_le_bulk 60 (by decide) d h.lf
  have h2 := h.bk
  rw [sizeLine_eq]
  omega
section
variable {X : Cx}
def rReprX (K : PySem.W.Frag) : List V → Hp → VK → Prop := fun xs H Q => ∃ p v d, xs = [v] ∧ Dx K p H v d ∧ Gd d 50 200000 ∧ Q (.str d.shown) H
theorem call_reprX (hg : X.A.guards = some []) (hu : X.A.units + 64 < cLine) : CallR X (.builtin "repr") (rReprX X.K) := by
  intro pins s σ H xs us Q I r h
  obtain ⟨p, v, d, rfl, hd, g, q⟩ := h
  obtain ⟨u, rfl, ru⟩ := vals1 r
  obtain ⟨as, rd, ns⟩ := Dx.reads I d v u hd ru
  have big : ∀ a, u = .ref a → wpAny (model X.prog X.w) X.A (call (.builtin "repr") [u]) (EP X pins σ Q) X.xe s := by
    rintro a rfl
    have := g.dp
    exact repr_of_reads' rd g.sh (fun _ => ns) hg (by omega) (fun _ _ e => e) (fun h' u tk hk => ⟨.str d.shown, H, I.kept hk, ⟨u, rfl⟩, q⟩) (g.len (Nat.le_refl _))
  cases hd with
  | lst n m hs ha => exact big _ ru
  | tup hs ha => exact big _ ru
  | emp n he => exact big _ ru
  | int i =>
    obtain ⟨t, rfl⟩ := (show ∃ t, u = Value.int i t from ru)
    have hz : i.natAbs.log2 < 1920 := of_decide_eq_true g.sh
    exact PySem.P.repr_of_int hz ⟨.str _, H, I.tok _, ⟨_, rfl⟩, q⟩
  | str x =>
    obtain ⟨t, rfl⟩ := (show ∃ t, u = Value.str x t from ru)
    have hl := g.len (Nat.le_refl _)
    exact call_repr_slot (by omega) rfl F.slot_str_repr.toG (call_gives F.slot_str_repr rfl F.entry_str_repr (F.args_str_repr_1 _) (gives_str_repr x t) ⟨hl, ⟨_, _, rfl, ⟨.str _, H, I.tok _, ⟨_, rfl⟩, q⟩⟩⟩)
  | bl b =>
    obtain rfl : u = Value.bool b := ru
    exact call_repr_slot (by omega) rfl F.slot_bool_repr.toG (call_gives F.slot_bool_repr rfl F.entry_bool_repr (F.args_bool_repr_1 _) (gives_bool_repr b) ⟨by cases b <;> decide, _, _, rfl, ⟨.str _, H, I.tok _, ⟨_, rfl⟩, q⟩⟩)
  | non =>
    obtain rfl : u = Value.none := ru
    exact call_repr_slot (by omega) rfl F.slot_NoneType_repr.toG (call_gives F.slot_NoneType_repr rfl F.entry_NoneType_repr (F.args_NoneType_repr_1 _) gives_none_repr ⟨by decide, _, _, rfl, ⟨.str _, H, I.tok _, ⟨_, rfl⟩, q⟩⟩)
/-- t == (), whatever t holds -/
def rEqE (K : PySem.W.Frag) : R2 := fun x y H Q => ∃ a b xs, x = .ref a ∧ y = .ref b ∧ SqT K H a xs ∧ SqT K H b [] ∧ Q (.bl xs.isEmpty) H
theorem op_eqE (hu : X.A.units + 64 < cLine) : OpR X (compareOp .Eq) (rEqE X.K) := by
  intro pins s σ H x y v u Q I rx ry h
  obtain ⟨a, b, xs, rfl, rfl, ha, hb, q⟩ := h
  cases rx
  cases ry
  obtain ⟨its, rv, pl, _⟩ := I.tuple ha
  obtain ⟨its2, rv2, pl2, _⟩ := I.tuple hb
  cases rv2
  have e : ((List.range (min its.toArray.size (#[] : Array Value).size)).all (fun _ => true) && its.toArray.size == (#[] : Array Value).size) = xs.isEmpty := by
    cases rv <;> simp
  have k := SeqAt.RcAt.tuples (A := X.A) (l := a) (b := b) (items := its.toArray) (items2 := #[]) (e := fun _ => true) pl pl2 (by omega) (fun j h1 h2 => absurd h2 (by simp)) X.prog X.w X.xe (EP X pins σ Q)
  rw [e] at k
  exact k ⟨.bl _, H, I, rfl, q⟩
/-- a list that is written out: not the modules' place either -/
def tLstN (t : TA) : TE := fun σ H Q => t σ H fun xs H1 => xs.length ≤ sizeLine ∧ ∀ p, H1 p = none → p ≠ sysModules → Q (.ref p) (upd H1 p (.lst xs))
theorem pe_lstN {es : List Expr} {t : TA} {pos : Pos} (h : PA X es t) : PE X (.List es pos) (tLstN t) := by
  refine ⟨fun pins s σ H Q I hq => ?_⟩
  refine wpAny_List_spliced (thn (h.run pos pins s σ H _ I hq) fun us s1 ⟨xs, H1, I1, r, z, q⟩ => ⟨by rw [← r.length]; exact z, ?_⟩)
  have hf : H1 s1.heap.objs.size = none := I1.hok.fresh (Nat.le_refl _)
  have hb := I1.big
  refine ⟨.ref s1.heap.objs.size, upd H1 s1.heap.objs.size (.lst xs), I1.laid (t' := s1.toks) (fun b u e => Heap.get?_push_of_some _ e) (Nat.le_refl _) ?_, rfl, q _ hf (fun e => ?_)⟩
  · exact ⟨z, us, 0, r, Heap.get?_push_size _ rfl⟩
  · rw [e] at hb
    exact Nat.lt_irrefl _ hb
end
end Vx

namespace Vx
open PySem PySem.Spec PyProof.Rows L2
/-! any value's skeleton -/
mutual
def skD : PyData → Sk
  | .str x => .s x
  | .int i => .i i
  | .tuple ds => .t (skDs ds)
  | _ => .o
def skDs : List PyData → List Sk
  | [] => []
  | d :: r => skD d :: skDs r
end
theorem skDs_len : ∀ ds : List PyData, (skDs ds).length = ds.length
  | [] => rfl
  | d :: r => congrArg (· + 1) (skDs_len r)
theorem skDs_get : ∀ (ds : List PyData) (i : Nat), (skDs ds)[i]? = (ds[i]?).map skD
  | [], i => by simp [skDs]
  | d :: r, 0 => rfl
  | d :: r, i + 1 => skDs_get r i
mutual
theorem dx_sv {K : PySem.W.Frag} {p : Addr} {H : Hp} : ∀ (d : PyData) (v : V), Dx K p H v d → d.bulk ≤ 100000 → Sv K H v (skD d)
  | .none, _, h, _ => by cases h; exact .oth (.inl rfl)
  | .bool b, _, h, _ => by cases h; exact .oth (.inr (.inl ⟨b, rfl⟩))
  | .int i, _, h, _ => by cases h; exact .int i
  | .str x, _, h, b => by cases h; exact .str x b
  | .list ds, _, h, _ => by
    cases h with
    | lst n m hs ha => exact .oth (.inr (.inr (.inl ⟨_, _, rfl, hs⟩)))
  | .dict kvs, _, h, _ => by
    cases h with
    | emp n he => exact .oth (.inr (.inr (.inr ⟨_, _, rfl, he⟩)))
  | .tuple ds, _, h, b => by
    cases h with
    | tup hs ha => exact .tup hs (dxAll_sv ds _ ha b)
theorem dxAll_sv {K : PySem.W.Frag} {p : Addr} {H : Hp} : ∀ (ds : List PyData) (vs : List V), DxAll K p H vs ds → PyData.bulkAll ds ≤ 100000 → SvAll K H vs (skDs ds)
  | [], _, h, _ => by cases h; exact .nil
  | d :: ds, _, h, b => by
    cases h with
    | cons h1 h2 =>
      have b : d.bulk + 1 + PyData.bulkAll ds ≤ 100000 := b
      exact .cons (dx_sv d _ h1 (by omega)) (dxAll_sv ds _ h2 (by omega))
end
mutual
theorem skD_size : ∀ d : PyData, (skD d).size ≤ d.bulk + 1
  | .none => Nat.le_add_left _ _
  | .bool b => Nat.le_add_left _ _
  | .int i => Nat.le_add_left _ _
  | .str x => Nat.le_add_left _ _
  | .list ds => Nat.le_add_left _ _
  | .dict kvs => Nat.le_add_left _ _
  | .tuple ds => by
    show (Sk.t (skDs ds)).size ≤ PyData.bulkAll ds + 1
    have := skDs_size ds
    rw [Sk.size]; omega
theorem skDs_size : ∀ ds : List PyData, Sk.sizes (skDs ds) ≤ PyData.bulkAll ds
  | [] => Nat.le_refl _
  | d :: ds => by
    have h1 := skD_size d
    have h2 := skDs_size ds
    show Sk.sizes (skD d :: skDs ds) ≤ d.bulk + 1 + PyData.bulkAll ds
    rw [Sk.sizes]; omega
end
/-- not well formed, wherever it stands -/
def Bd (q : Int) (d : PyData) : Prop := ∀ p, Sk.bad q (skD d) p ≠ none
theorem bads_at {q : Int} {p : List Int} : ∀ (r : List Sk) (k i : Nat) (a : Sk), r[i]? = some a → (∀ p, Sk.bad q a p ≠ none) → Sk.bads q r p k ≠ none
  | [], k, i, a, h, _ => by simp at h
  | x :: r, k, 0, a, h, b => by
    obtain rfl := Option.some.inj h
    rw [Sk.bads]
    cases c : Sk.bad q x (p ++ [(k : Int)]) with
    | none => exact absurd c (b _)
    | some z => exact fun w => nomatch w
  | x :: r, k, i + 1, a, h, b => by
    rw [Sk.bads]
    cases Sk.bad q x (p ++ [(k : Int)]) with
    | none => exact bads_at r (k + 1) i a (by simpa using h) b
    | some z => exact fun w => nomatch w
theorem Bd.tuple {q : Int} {ds : List PyData} {i : Nat} {d : PyData} (h : ds[i + 1]? = some d) (b : Bd q d) : Bd q (.tuple ds) := fun p => by
  cases ds with
  | nil => simp at h
  | cons x r =>
    show Sk.bad q (.t (skD x :: skDs r)) p ≠ none
    rw [Sk.bad]
    split
    · exact bads_at _ _ i (skD d) (by rw [skDs_get]; simp only [List.getElem?_cons_succ] at h; rw [h]; rfl) b
    · exact fun w => nomatch w
/-- a formula's -/
theorem fml_skD : ∀ F : Fml, skD F.d = F.sk
  | .var x => rfl
  | .num i => rfl
  | .neg a => by
    show Sk.t [Sk.s "not", skD a.d] = Sk.t [Sk.s "not", a.sk]
    rw [fml_skD a]
  | .bin w a b => by
    show Sk.t [Sk.s w, skD a.d, skD b.d] = Sk.t [Sk.s w, a.sk, b.sk]
    rw [fml_skD a, fml_skD b]
theorem depth_mem {d : PyData} : ∀ {ds : List PyData}, d ∈ ds → d.depth ≤ PyData.depthAll ds
  | x :: r, h => by
    show d.depth ≤ max x.depth (PyData.depthAll r)
    rcases List.mem_cons.mp h with rfl | h
    · exact Nat.le_max_left _ _
    · exact Nat.le_trans (depth_mem h) (Nat.le_max_right _ _)
theorem bulk_mem {d : PyData} : ∀ {ds : List PyData}, d ∈ ds → d.bulk ≤ PyData.bulkAll ds
  | x :: r, h => by
    show d.bulk ≤ x.bulk + 1 + PyData.bulkAll r
    rcases List.mem_cons.mp h with rfl | h
    · omega
    · have := bulk_mem h; omega
/-! what is shown stays small -/
theorem Gd.mono {d : PyData} {n m n' m' : Nat} (h : Gd d n m) (a : n ≤ n') (b : m ≤ m') : Gd d n' m' := ⟨h.sh, h.lf, Nat.le_trans h.dp a, Nat.le_trans h.bk b⟩
structure Gds (ds : List PyData) (n m : Nat) : Prop where
  sh : PyData.showableAll ds = true
  lf : PyData.leavesShortAll 60 ds = true
  dp : PyData.depthAll ds ≤ n
  bk : PyData.bulkAll ds ≤ m
theorem Gds.tup {ds : List PyData} {n m : Nat} (h : Gds ds n m) : Gd (.tuple ds) (n + 1) m := ⟨h.sh, h.lf, Nat.succ_le_succ h.dp, h.bk⟩
theorem Gd.tup {ds : List PyData} {n m : Nat} (h : Gd (.tuple ds) n m) : Gds ds (n - 1) m ∧ 0 < n := ⟨⟨h.sh, h.lf, by have : PyData.depthAll ds + 1 ≤ n := h.dp; omega, h.bk⟩, by have : PyData.depthAll ds + 1 ≤ n := h.dp; omega⟩
theorem Gds.nil (n m : Nat) : Gds [] n m := ⟨rfl, rfl, Nat.zero_le _, Nat.zero_le _⟩
theorem Gds.cons {d : PyData} {ds : List PyData} {n m k : Nat} (h : Gd d n m) (r : Gds ds n k) : Gds (d :: ds) n (m + 1 + k) :=
  ⟨by show (d.showable && PyData.showableAll ds) = true; rw [h.sh, r.sh]; rfl, by show (d.leavesShort 60 && PyData.leavesShortAll 60 ds) = true; rw [h.lf, r.lf]; rfl,
    by show max d.depth (PyData.depthAll ds) ≤ n; have := h.dp; have := r.dp; omega, by show d.bulk + 1 + PyData.bulkAll ds ≤ _; have := h.bk; have := r.bk; omega⟩
theorem gds_set {d e : PyData} : ∀ {ds : List PyData} {i n m a b : Nat}, Gds ds n m → ds[i]? = some d → (Gd e a b) → n ≤ a → b ≤ d.bulk + k → Gds (ds.take i ++ e :: ds.drop (i + 1)) a (m + k)
  | [], i, n, m, a, b, _, h, _, _, _ => by simp at h
  | x :: r, 0, n, m, a, b, g, h, ge, na, bb => by
    obtain rfl := Option.some.inj h
    have s1 := (Bool.and_eq_true _ _).mp g.sh
    have l1 := (Bool.and_eq_true _ _).mp g.lf
    have d1 : max x.depth (PyData.depthAll r) ≤ n := g.dp
    have b1 : x.bulk + 1 + PyData.bulkAll r ≤ m := g.bk
    have := ge.bk
    have := ge.dp
    refine ⟨?_, ?_, ?_, ?_⟩
    · show (e.showable && PyData.showableAll r) = true; rw [ge.sh, s1.2]; rfl
    · show (e.leavesShort 60 && PyData.leavesShortAll 60 r) = true; rw [ge.lf, l1.2]; rfl
    · show max e.depth (PyData.depthAll r) ≤ a; omega
    · show e.bulk + 1 + PyData.bulkAll r ≤ _; omega
  | x :: r, i + 1, n, m, a, b, g, h, ge, na, bb => by
    have s1 := (Bool.and_eq_true _ _).mp g.sh
    have l1 := (Bool.and_eq_true _ _).mp g.lf
    have d1 : max x.depth (PyData.depthAll r) ≤ n := g.dp
    have b1 : x.bulk + 1 + PyData.bulkAll r ≤ m := g.bk
    have ih := gds_set (k := k) (ds := r) (i := i) (n := n) (m := m - (x.bulk + 1)) (a := a) (b := b) ⟨s1.2, l1.2, by omega, by omega⟩ (by simpa using h) ge na bb
    have h3 := ih.dp
    have h4 := ih.bk
    refine ⟨?_, ?_, ?_, ?_⟩
    · show (x.showable && PyData.showableAll (r.take i ++ e :: r.drop (i + 1))) = true; rw [s1.1, ih.sh]; rfl
    · show (x.leavesShort 60 && PyData.leavesShortAll 60 (r.take i ++ e :: r.drop (i + 1))) = true; rw [l1.1, ih.lf]; rfl
    · show max x.depth (PyData.depthAll (r.take i ++ e :: r.drop (i + 1))) ≤ a; omega
    · show x.bulk + 1 + PyData.bulkAll (r.take i ++ e :: r.drop (i + 1)) ≤ _; omega
theorem gd_get {d : PyData} : ∀ {ds : List PyData} {i n m : Nat}, Gds ds n m → ds[i]? = some d → Gd d n d.bulk ∧ d.bulk < m
  | [], i, n, m, _, h => by simp at h
  | x :: r, 0, n, m, g, h => by
    obtain rfl := Option.some.inj h
    have s1 := (Bool.and_eq_true _ _).mp g.sh
    have l1 := (Bool.and_eq_true _ _).mp g.lf
    have d1 : max x.depth (PyData.depthAll r) ≤ n := g.dp
    have b1 : x.bulk + 1 + PyData.bulkAll r ≤ m := g.bk
    exact ⟨⟨s1.1, l1.1, by omega, Nat.le_refl _⟩, by omega⟩
  | x :: r, i + 1, n, m, g, h => by
    have s1 := (Bool.and_eq_true _ _).mp g.sh
    have l1 := (Bool.and_eq_true _ _).mp g.lf
    have d1 : max x.depth (PyData.depthAll r) ≤ n := g.dp
    have b1 : x.bulk + 1 + PyData.bulkAll r ≤ m := g.bk
    obtain ⟨g1, g2⟩ := gd_get (ds := r) (i := i) (n := n) (m := m - (x.bulk + 1)) ⟨s1.2, l1.2, by omega, by omega⟩ (by simpa using h)
    exact ⟨g1, by omega⟩
theorem gd_str {x : Str} (h : (x.cps.toList.all fun c => decide (c < 16 ^ 8)) = true) (n : Nat) : Gd (.str x) n x.cps.size := ⟨rfl, h, Nat.zero_le _, Nat.le_refl _⟩
theorem gd_int {i : Int} (h : i.natAbs < 10 ^ 12) (n m : Nat) : Gd (.int i) n m := by
  refine ⟨?_, ?_, Nat.zero_le _, Nat.zero_le _⟩
  · show decide (i.natAbs.log2 < 1920) = true
    refine decide_eq_true ?_
    by_cases e : i.natAbs = 0
    · rw [e]; decide
    · exact Nat.lt_of_lt_of_le ((Nat.log2_lt e).mpr (Nat.lt_of_lt_of_le h (show 10 ^ 12 ≤ 2 ^ 40 by decide))) (by decide)
  · show decide ((PyData.shown (.int i)).length ≤ 60) = true
    exact decide_eq_true (Nat.le_trans (PyData.shown_int_le h) (by decide))
theorem gd_fml {q : Int} (hq : q ≤ 1000) : ∀ F : Fml, F.ok → F.lok q → Gd F.d F.dep (6 * F.lvs + 9 * F.tps)
  | .var x, _, l => by
    obtain ⟨n1, n2⟩ := nameB_low l
    have l : nameB x = true := l
    refine ⟨rfl, ?_, Nat.le_refl _, ?_⟩
    · show (x.cps.toList.all fun c => decide (c < 16 ^ 8)) = true
      exact List.all_eq_true.mpr fun c hc => decide_eq_true (n1 c hc)
    · unfold nameB at l
      simp only [Bool.and_eq_true, decide_eq_true_eq] at l
      exact l.1.2
  | .num i, _, l => by
    obtain ⟨l0, l1⟩ := l
    exact gd_int (Nat.lt_trans (show i.natAbs < 1000 by omega) (by decide)) _ _
  | .neg a, o, l => by
    have g := gd_fml hq a o l
    have := g.dp
    have w : Gd (.str "not") a.dep 3 := ⟨rfl, by decide +kernel, Nat.zero_le _, by decide +kernel⟩
    have t := (Gds.cons w (Gds.cons g (Gds.nil _ 0))).tup
    rw [Fml.d]
    exact t.mono (Nat.le_refl _) (by show _ ≤ 6 * a.lvs + 9 * (a.tps + 1); omega)
  | .bin w a b, o, l => by
    have g := gd_fml hq a o.2.1 l.1
    have k := gd_fml hq b o.2.2 l.2
    have hw : Gd (.str w) (max a.dep b.dep) 5 := by
      rcases o.1 with rfl | rfl | rfl | rfl | rfl <;> exact ⟨rfl, by decide +kernel, Nat.zero_le _, by decide +kernel⟩
    have t := (Gds.cons hw (Gds.cons (g.mono (Nat.le_max_left a.dep b.dep) (Nat.le_refl _)) (Gds.cons (k.mono (Nat.le_max_right a.dep b.dep) (Nat.le_refl _)) (Gds.nil _ 0)))).tup
    rw [Fml.d]
    exact t.mono (Nat.le_refl _) (by show _ ≤ 6 * (a.lvs + b.lvs) + 9 * (a.tps + b.tps + 1); omega)
end Vx

namespace Vx
open PySem PySem.Spec PyProof.Rows L2
/-! displays as data -/
theorem PE.imp {X : Cx} {e : Expr} {t t' : TE} (h : PE X e t) (k : ∀ σ H Q, t' σ H Q → t σ H Q) : PE X e t' := ⟨fun pins s σ H Q I w => h.run pins s σ H Q I (k σ H Q w)⟩
theorem PA.imp {X : Cx} {es : List Expr} {t t' : TA} (h : PA X es t) (k : ∀ σ H Q, t' σ H Q → t σ H Q) : PA X es t' := ⟨fun pos pins s σ H Q I w => h.run pos pins s σ H Q I (k σ H Q w)⟩
def tD (K : PySem.W.Frag) (ok : L2.St → Prop) (val : L2.St → PyData) : TE := fun σ H Q => ok σ ∧ ∃ p, H p ≠ none ∧ ∀ v H', Same H H' → Dx K p H' v (val σ) → Q v H'
def tDs (K : PySem.W.Frag) (ok : L2.St → Prop) (val : L2.St → List PyData) : TA := fun σ H Q => ok σ ∧ ∃ p, H p ≠ none ∧ ∀ vs H', Same H H' → DxAll K p H' vs (val σ) → Q vs H'
theorem some_same {H H' : Hp} (s : Same H H') {p : Addr} (h : H p ≠ none) : H' p ≠ none := by
  cases e : H p with
  | none => exact absurd e h
  | some u => rw [s _ _ e]; exact fun z => nomatch z
section
variable {X : Cx}
theorem peD_of {e : Expr} {v : V} {d : PyData} (h : PE X e (tC v)) (hd : ∀ p H, Dx X.K p H v d) : PE X e (tD X.K (fun _ => True) fun _ => d) := PE.imp h fun σ H Q ⟨_, p, _, q⟩ => q v H (Same.refl H) (hd p H)
theorem peD_int {i : Int} {j : Tok} {pos : Pos} : PE X (.Constant (.int i) j pos) (tD X.K (fun _ => True) fun _ => .int i) := peD_of pe_int fun _ _ => .int i
theorem peD_str {x : Str} {j : Tok} {pos : Pos} : PE X (.Constant (.str x) j pos) (tD X.K (fun _ => True) fun _ => .str x) := peD_of pe_str fun _ _ => .str x
theorem peD_bl {b : Bool} {j : Tok} {pos : Pos} : PE X (.Constant (.bool b) j pos) (tD X.K (fun _ => True) fun _ => .bool b) := peD_of pe_bl fun _ _ => .bl b
theorem peD_non {j : Tok} {pos : Pos} : PE X (.Constant .none j pos) (tD X.K (fun _ => True) fun _ => .none) := peD_of pe_non fun _ _ => .non
/-- the int in slot i -/
def atS (i : Nat) (σ : L2.St) : Int := match σ[i]? with
  | some (some (.int n)) => n
  | _ => 0
theorem peD_var {i : Nat} {e : Expr} (h : PE X e (tVar i)) : PE X e (tD X.K (fun σ => ∃ n, σ[i]? = some (some (.int n))) fun σ => .int (atS i σ)) := PE.imp h fun σ H Q ⟨⟨n, e⟩, p, _, q⟩ => ⟨_, e, q (.int n) H (Same.refl H) (by
  have : atS i σ = n := by unfold atS; rw [e]
  show Dx X.K p H (.int n) (.int (atS i σ))
  rw [this]
  exact .int n)⟩
theorem peD_neg {i : Int} {j : Tok} {q q2 : Pos} : PE X (.UnaryOp .USub (.Constant (.int i) j q) q2) (tD X.K (fun _ => True) fun _ => .int (-i)) := PE.imp (pe_un un_neg pe_int) fun σ H Q ⟨_, p, _, k⟩ => ⟨i, rfl, k (.int (-i)) H (Same.refl H) (.int _)⟩
theorem peD_pow {i j : Int} {t t2 : Tok} {q q2 q3 : Pos} (h : 0 ≤ j ∧ j ≤ 1000000 ∧ i.natAbs < 2 ^ 64) : PE X (.BinOp (.Constant (.int i) t q) .Pow (.Constant (.int j) t2 q2) q3) (tD X.K (fun _ => True) fun _ => .int (i ^ j.toNat)) := PE.imp (pe_op op_pow pe_int pe_int) fun σ H Q ⟨_, p, _, k⟩ =>
  ⟨i, j, rfl, rfl, h, k _ H (Same.refl H) (.int _)⟩
theorem peD_emp {pos : Pos} : PE X (.Dict [] [] pos) (tD X.K (fun _ => True) fun _ => .dict []) := PE.imp pe_dnewK fun σ H Q ⟨_, p, hp, k⟩ => fun d hd => k _ _ (same_new hd _) (.emp (fun z => hp (z ▸ hd)) upd_same)
theorem paD_nil : PA X [] (tDs X.K (fun _ => True) fun _ => []) := PA.imp pa_nil fun σ H Q ⟨_, p, _, k⟩ => k [] H (Same.refl H) .nil
theorem paD_cons {e : Expr} {es : List Expr} {ok ok2 : L2.St → Prop} {val : L2.St → PyData} {vals : L2.St → List PyData} (h : PE X e (tD X.K ok val)) (r : PA X es (tDs X.K ok2 vals))
    (hs : starEach (e :: es) X.env = (false, eval e X.env) :: starEach es X.env := by rfl) : PA X (e :: es) (tDs X.K (fun σ => ok σ ∧ ok2 σ) fun σ => val σ :: vals σ) := PA.imp (pa_cons h r hs) fun σ H Q ⟨⟨o1, o2⟩, p, hp, k⟩ =>
  ⟨o1, p, hp, fun v H1 s1 d1 => ⟨o2, p, some_same s1 hp, fun vs H2 s2 d2 => k (v :: vs) H2 (s1.trans s2) (.cons (Dx.same s2 d1) d2)⟩⟩
theorem peD_tup {es : List Expr} {x1 : _} {pos : Pos} {ok : L2.St → Prop} {vals : L2.St → List PyData} (r : PA X es (tDs X.K ok vals)) (hl : ∀ σ, (vals σ).length ≤ 1000 := by intro σ; exact Nat.le_of_ble_eq_true rfl) : PE X (.Tuple es x1 pos) (tD X.K ok fun σ => .tuple (vals σ)) := PE.imp (pe_tup r) fun σ H Q ⟨o, p, hp, k⟩ =>
  ⟨o, p, hp, fun vs H1 s1 d1 => ⟨by rw [d1.len]; exact Nat.le_trans (hl σ) (by decide), fun t ht => k _ _ (s1.trans (same_new ht _)) (.tup (SqT.of upd_same) (DxAll.same (same_new ht _) d1))⟩⟩
theorem peD_lst {es : List Expr} {pos : Pos} {ok : L2.St → Prop} {vals : L2.St → List PyData} (r : PA X es (tDs X.K ok vals)) (hl : ∀ σ, (vals σ).length ≤ 1000 := by intro σ; exact Nat.le_of_ble_eq_true rfl) : PE X (.List es pos) (tD X.K ok fun σ => .list (vals σ)) := PE.imp (pe_lstN r) fun σ H Q ⟨o, p, hp, k⟩ =>
  ⟨o, p, hp, fun vs H1 s1 d1 => ⟨by rw [d1.len]; exact Nat.le_trans (hl σ) (by decide), fun t ht nt => k _ _ (s1.trans (same_new ht _)) (.lst (fun z => some_same s1 hp (z ▸ ht)) nt (SqL.of upd_same) (DxAll.same (same_new ht _) d1))⟩⟩
end
/-- l == [], whatever l holds -/
def rEqEL (K : PySem.W.Frag) : R2 := fun x y H Q => ∃ a b xs, x = .ref a ∧ y = .ref b ∧ SqL K H a xs ∧ SqL K H b [] ∧ Q (.bl xs.isEmpty) H
theorem op_eqEL {X : Cx} (hu : X.A.units + 64 < cLine) : OpR X (compareOp .Eq) (rEqEL X.K) := by
  intro pins s σ H x y v u Q I rx ry h
  obtain ⟨a, b, xs, rfl, rfl, ha, hb, q⟩ := h
  cases rx
  cases ry
  obtain ⟨its, rv, pl, _⟩ := I.list ha
  obtain ⟨its2, rv2, pl2, _⟩ := I.list hb
  cases rv2
  cases rv with
  | nil => exact SeqAt.RcAt.lists (A := X.A) (e := fun _ => true) pl.isList pl2.isList rfl (by omega) (fun j h1 h2 => absurd h2 (by simp)) X.prog X.w X.xe (EP X pins σ Q) ⟨.bl _, H, I, rfl, q⟩
  | cons r1 r2 => exact SeqAt.RcAt.lists_lengths (A := X.A) pl.isList pl2.isList (by simp) (by omega) X.prog X.w X.xe (EP X pins σ Q) ⟨.bl _, H, I, rfl, q⟩
/-! bad ones, by a test -/
mutual
def badB (q : Int) : Sk → Bool
  | .t (x :: r) => !Sk.built q (.t (x :: r)) || badBs q r
  | a => !Sk.built q a
def badBs (q : Int) : List Sk → Bool
  | [] => false
  | x :: r => badB q x || badBs q r
end
mutual
theorem badB_ok {q : Int} : ∀ (a : Sk), badB q a = true → ∀ p, Sk.bad q a p ≠ none
  | .t [], h, p => by
    rw [Sk.bad, if_neg (by intro z; exact Bool.noConfusion (show false = true from z))]
    · exact fun w => nomatch w
    · intro x r h; cases h
  | .s x, h, p => by
    have h : (!Sk.built q (.s x)) = true := h
    rw [Sk.bad, if_neg (by intro z; rw [z] at h; cases h)]
    · exact fun w => nomatch w
    · intro x r h; cases h
  | .i n, h, p => by
    have h : (!Sk.built q (.i n)) = true := h
    rw [Sk.bad, if_neg (by intro z; rw [z] at h; cases h)]
    · exact fun w => nomatch w
    · intro x r h; cases h
  | .o, h, p => by
    rw [Sk.bad, if_neg (by intro z; exact Bool.noConfusion (show false = true from z))]
    · exact fun w => nomatch w
    · intro x r h; cases h
  | .t (x :: r), h, p => by
    have h : (!Sk.built q (.t (x :: r)) || badBs q r) = true := h
    rw [Sk.bad]
    split
    · rename_i c
      rw [c] at h
      exact badBs_ok r h p 1
    · exact fun w => nomatch w
theorem badBs_ok {q : Int} : ∀ (r : List Sk), badBs q r = true → ∀ p k, Sk.bads q r p k ≠ none
  | [], h, _, _ => by cases h
  | x :: r, h, p, k => by
    have h : (badB q x || badBs q r) = true := h
    rw [Sk.bads]
    cases c : Sk.bad q x (p ++ [(k : Int)]) with
    | some z => exact fun w => nomatch w
    | none =>
      cases e : badB q x with
      | true => exact absurd c (badB_ok x e _)
      | false => rw [e] at h; exact badBs_ok r h p (k + 1)
end
end Vx

namespace Vk06
open PySem PySem.Spec PyProof.Rows L2 Vx
def top (i : Nat) : Stmt := PySem.Challenge.pw_maskedlist_k06_formula_errors.main.body.getD i (.Pass ⟨0, 0, 0, 0⟩)
section
variable {P : Program} {w : World} {K : PySem.W.Frag} {mg : Str → Option Value} {base : Heap}
namespace Sx
def isRes (q : Int) : Sk → Bool
  | .i n => decide (0 ≤ n) && decide (n < q)
  | _ => false
def isVar : Sk → Bool
  | .s x => nameB x
  | _ => false
def isOp : Sk → Bool
  | .t (.s w :: r) => decide (Sk.opc w = some r.length)
  | _ => false
theorem built_eq (q : Int) (a : Sk) : Sk.built q a = if a.isT = true then isOp a else (isRes q a || isVar a) := by
  cases a with
  | s x => rfl
  | i n => show _ = (_ || false); rw [Bool.or_false]; rfl
  | o => rfl
  | t xs =>
    cases xs with
    | nil => rfl
    | cons x r => cases x <;> rfl
end Sx
def sp_is_integer (K : PySem.W.Frag) : Sp := fun vs H Q _ => ∃ (v : V) (a : Sk), vs = [v] ∧ Sv K H v a ∧ Q (.bl a.isI) H

abbrev s_is_integer : Stmt := top 7
theorem sc_is_integer : FnScope ["value"] ["value"] (defScope s_is_integer) := ⟨rfl, rfl, rfl, by decide +kernel, rfl, by decide +kernel, by decide +kernel⟩
theorem ok_is_integer {f : Addr} {fd : FuncData} (F : Fun K "is_integer" "is_integer" s_is_integer f fd) (m_isinstance : mg "isinstance" = none) (m_int : mg "int" = none) (m_bool : mg "bool" = none) : FnG P w K mg base CX0 1 f fd ["value"] (sp_is_integer K) := by
  refine okG F sc_is_integer (fun vs H Q E h => ?_) (fun cdv A' o s H vs Q E hr h => ?_)
  · obtain ⟨v, a, rfl, _⟩ := h
    rfl
  obtain ⟨v, a, rfl, hv, done⟩ := h
  refine ⟨_, (pss_one (ps_ret (pe_and (pe_callB call_isi (by rfl) m_isinstance (by decide +kernel) (pa_cons (pv 0) (pa_cons (pe_bltn (v := .ty "int") (by rfl) m_int (by decide +kernel) rfl) pa_nil))) (pe_one (pe_not (pe_callB call_isi (by rfl) m_isinstance (by decide +kernel) (pa_cons (pv 0) (pa_cons (pe_bltn (v := .ty "bool") (by rfl) m_bool (by decide +kernel) rfl) pa_nil)))))))), ?_⟩
  obtain ⟨t, b, c, hx, kb, kc, e⟩ := isi_b hv
  refine ⟨_, rfl, _, _, _, _, c, rfl, .ty _, hx, kc, c, rfl, ?_⟩
  cases c with
  | false =>
    have z : a.isI = false := by simp at e; exact e
    rw [z] at done
    exact iteF done
  | true =>
    have z : a.isI = !b := by rw [Bool.not_true, Bool.or_false] at e; rw [e, Bool.not_not]
    rw [z] at done
    exact iteT ⟨_, rfl, _, _, _, _, b, rfl, .ty _, hx, kb, b, rfl, done⟩

def sp_is_residue (K : PySem.W.Frag) : Sp := fun vs H Q _ => ∃ (v : V) (a : Sk) (q : Int), vs = [v, .int q] ∧ Sv K H v a ∧ Q (.bl (Sx.isRes q a)) H

abbrev s_is_residue : Stmt := top 8
theorem sc_is_residue : FnScope ["value", "modulus"] ["value", "modulus"] (defScope s_is_residue) := ⟨rfl, rfl, rfl, by decide +kernel, rfl, by decide +kernel, by decide +kernel⟩
theorem ok_is_residue {f : Addr} {fd : FuncData} (F : Fun K "is_residue" "is_residue" s_is_residue f fd) (c_is_integer : Cal P w K mg base "is_integer" 1 ["value"] (sp_is_integer K)) : FnG P w K mg base CX0 2 f fd ["value", "modulus"] (sp_is_residue K) := by
  obtain ⟨f_is_integer, fd_is_integer, G_is_integer, m_is_integer, k_is_integer, b_is_integer⟩ := c_is_integer.ex
  refine okG F sc_is_residue (fun vs H Q E h => ?_) (fun cdv A' o s H vs Q E hr h => ?_)
  · obtain ⟨v, a, q, rfl, _⟩ := h
    rfl
  obtain ⟨v, a, q, rfl, hv, done⟩ := h
  refine ⟨_, (pss_one (ps_ret (pe_and (ge_call G_is_integer (hr.mono (by first | decide | omega)) (by rfl) m_is_integer k_is_integer b_is_integer .nil pass0 (pa_cons (pv 0) pa_nil)) (pe_one (pe_chain op_le op_lt pe_int (pv 0) (pv 1)))))), ?_⟩
  refine ⟨_, rfl, v, a, rfl, hv, a.isI, rfl, ?_⟩
  have no : a.isI = false → Q (.bl false) H := fun z => by
    have : Sx.isRes q a = false := by cases a <;> first | rfl | cases z
    rw [this] at done
    exact done
  by_cases hi : a.isI = true
  · rw [hi]
    refine iteT ?_
    cases a with
    | i n =>
      obtain rfl := sv_i hv
      refine ⟨_, rfl, _, _, rfl, rfl, _, rfl, ?_⟩
      by_cases l : 0 ≤ n
      · refine if_true_of (decide_eq_true l) ⟨_, rfl, _, _, rfl, rfl, ?_⟩
        have : Sx.isRes q (.i n) = decide (n < q) := by show (decide (0 ≤ n) && _) = _; rw [decide_eq_true l, Bool.true_and]
        rw [this] at done
        exact done
      · refine if_false_of (decide_eq_false l) ?_
        have : Sx.isRes q (.i n) = false := by show (decide (0 ≤ n) && _) = _; rw [decide_eq_false l, Bool.false_and]
        rw [this] at done
        exact done
    | s x => cases hi
    | o => cases hi
    | t xs => cases hi
  · rw [Bool.not_eq_true] at hi
    rw [hi]
    exact iteF (no hi)

theorem letters_mem (c : Nat) : decide (c ∈ (("abcdefghijklmnopqrstuvwxyz" : Str)).cps.toList) = (decide (97 ≤ c) && decide (c ≤ 122)) := by
  have e : (("abcdefghijklmnopqrstuvwxyz" : Str)).cps.toList = List.range' 97 26 := by decide +kernel
  rw [e, Bool.eq_iff_iff]
  simp only [decide_eq_true_eq, Bool.and_eq_true, List.mem_range'_1]
  omega
theorem take_map_succ {x : Str} {i c : Nat} (h : x.cps[i]? = some c) (f : Nat → Bool) : (x.cps.toList.take (i + 1)).map f = (x.cps.toList.take i).map f ++ [f c] := by
  have e : x.cps.toList[i]? = some c := by rw [Array.getElem?_toList]; exact h
  rw [List.take_add_one, e, List.map_append]
  rfl
def sp_is_variable (K : PySem.W.Frag) : Sp := fun vs H Q _ => ∃ (v : V) (a : Sk), vs = [v] ∧ Sv K H v a ∧ ∀ H', Same H H' → Q (.bl (Sx.isVar a)) H'

abbrev s_is_variable : Stmt := top 9
theorem sc_is_variable : FnScope ["value", "sign"] ["value"] (defScope s_is_variable) := ⟨rfl, rfl, rfl, by decide +kernel, rfl, by decide +kernel, by decide +kernel⟩
theorem ok_is_variable {f : Addr} {fd : FuncData} (F : Fun K "is_variable" "is_variable" s_is_variable f fd) (m_all : mg "all" = none) (m_isinstance : mg "isinstance" = none) (m_str : mg "str" = none) (m_len : mg "len" = none) (h_MAX_LETTERS : ∃ t, mg "MAX_LETTERS" = some (.int 6 t)) (h_LETTERS : ∃ t, mg "LETTERS" = some (.str "abcdefghijklmnopqrstuvwxyz" t)) : FnG P w K mg base CX0 1 f fd ["value"] (sp_is_variable K) := by
  refine okG F sc_is_variable (fun vs H Q E h => ?_) (fun cdv A' o s H vs Q E hr h => ?_)
  · obtain ⟨v, a, rfl, _⟩ := h
    rfl
  obtain ⟨v, a, rfl, hv, done⟩ := h
  refine ⟨_, (Evl.pss_cut (ps_if (PW.pt (pw_or (pt_not (pt_val (pe_callB call_isi (by rfl) m_isinstance (by decide +kernel) (pa_cons (pv 0) (pa_cons (pe_bltn (v := .ty "str") (by rfl) m_str (by decide +kernel) rfl) pa_nil))))) (pw_or1 (pt_not (pt_chain op_le op_le pe_int (pe_callB call_len_str (by rfl) m_len PySem.boot_len (pa_cons (pv 0) pa_nil)) (pe_cI h_MAX_LETTERS (by rfl))))))) (pss_one (ps_ret pe_bl)) pss_nil)
      (pss_one (ps_ret (pe_callB (cr_all rfl) (by rfl) m_all (by decide +kernel) (pa_cons (pe_lc (own := [("sign", 1)]) (g := (gName 1)) (by rfl) sc_is_variable.nd (pi_str (pv 0)) (blkOk_by (own := [("sign", 1)]) (by kernel_rfl)) (fun _ _ _ _ _ => (pg_name (i := 1) sc_is_variable.nd rfl (Or.inl rfl))) (fun _ _ _ _ _ => pts_nil) (fun _ _ _ _ _ => (pe_cmpR op_in_sign (pv 1) (pe_cS h_LETTERS (by rfl)) (by rfl)))) pa_nil))))), ?_⟩
  obtain ⟨t, hx, kb⟩ := isi_s hv
  refine ⟨fun σ' H' => (∃ x, a = .s x ∧ 1 ≤ x.cps.size ∧ x.cps.size ≤ 6) ∧ H' = H ∧ σ' = [some v, none], ?_, ?_⟩
  · refine ⟨_, rfl, _, _, _, _, _, rfl, .ty _, hx, kb, _, rfl, ?_⟩
    cases a with
    | s x =>
      obtain ⟨rfl, hl⟩ := sv_s hv
      refine iteF ⟨_, rfl, _, rfl, Nat.le_trans hl (by decide), _, _, rfl, rfl, _, rfl, ?_⟩
      have e : x.length = x.cps.size := rfl
      by_cases l : 1 ≤ x.cps.size
      · refine if_true_of (decide_eq_true (by omega)) ⟨_, _, rfl, rfl, _, rfl, ?_⟩
        by_cases m : x.cps.size ≤ 6
        · rw [decide_eq_true (by omega)]
          exact iteF ⟨⟨x, rfl, l, m⟩, rfl, rfl⟩
        · rw [decide_eq_false (by omega)]
          refine iteT ?_
          have := done H (Same.refl _)
          rw [show Sx.isVar (.s x) = false from by show nameB x = false; unfold nameB; rw [decide_eq_false m, Bool.and_false, Bool.false_and]] at this
          exact this
      · refine if_false_of (decide_eq_false (by omega)) ⟨_, rfl, ?_⟩
        refine iteT ?_
        have := done H (Same.refl _)
        rw [show Sx.isVar (.s x) = false from by show nameB x = false; unfold nameB; rw [decide_eq_false (by omega), Bool.false_and, Bool.false_and]] at this
        exact this
    | i n => exact iteT (done H (Same.refl _))
    | o => exact iteT (done H (Same.refl _))
    | t xs => exact iteT (done H (Same.refl _))
  rintro _ H2 ⟨⟨x, rfl, l, m⟩, eH, rfl⟩
  obtain rfl := eH.symm
  obtain ⟨rfl, hl⟩ := sv_s hv
  refine ⟨_, rfl, x, rfl, fun D hD => lc_str (fun i H' => H' D = some (.lst (((x.cps.toList.take i).map fun c => decide (97 ≤ c) && decide (c ≤ 122)).map V.bl)) ∧ Same H H') ⟨upd_same, same_new hD _⟩ ?_ ?_⟩
  · rintro i c H' hc ⟨eD, s1⟩
    refine ⟨rfl, ?_⟩
    unfold tYes
    dsimp only
    rw [if_pos rfl]
    refine ⟨_, rfl, c, _, rfl, rfl, _, eD, ?_, ?_, same_mut s1 hD⟩
    · rw [List.length_map, List.length_map, List.length_take]
      exact Nat.lt_of_le_of_lt (show _ ≤ 6 by rw [Array.length_toList]; omega) (by decide)
    · rw [upd_same, take_map_succ hc, List.map_append, letters_mem]
      rfl
  · rintro H' ⟨eD, s1⟩
    refine ⟨D, _, rfl, SqL.of eD, ?_⟩
    have e : (x.cps.toList.take x.cps.size) = x.cps.toList := List.take_of_length_le (by rw [Array.length_toList]; exact Nat.le_refl _)
    have := done H' s1
    have q : Sx.isVar (.s x) = (((x.cps.toList.take x.cps.size).map fun c => decide (97 ≤ c) && decide (c ≤ 122)).all id) := by
      show nameB x = _
      rw [e, List.all_map]
      unfold nameB
      rw [decide_eq_true m, decide_eq_true (by omega)]
      rfl
    rw [q] at this
    exact this

def sp_is_operation (K : PySem.W.Frag) : Sp := fun vs H Q _ => ∃ (v : V) (ds : List Sk), vs = [v] ∧ Sv K H v (.t ds) ∧ ds.length ≤ 100000 ∧ Q (.bl (Sx.isOp (.t ds))) H
theorem tab_opc (w : Str) : tabV [("plus", 2), ("minus", 2), ("times", 2), ("not", 1), ("and", 2), ("or", 2)] w = match Sk.opc w with | none => V.non | some n => .int (n : Int) := by
  unfold Sk.opc tabV
  simp only [List.find?_cons, List.find?_nil]
  by_cases h1 : w = "plus"
  · subst h1; decide +kernel
  by_cases h2 : w = "minus"
  · subst h2; decide +kernel
  by_cases h3 : w = "times"
  · subst h3; decide +kernel
  by_cases h4 : w = "not"
  · subst h4; decide +kernel
  by_cases h5 : w = "and"
  · subst h5; decide +kernel
  by_cases h6 : w = "or"
  · subst h6; decide +kernel
  rw [if_neg h1, if_neg h2, if_neg h3, if_neg h4, if_neg h5, if_neg h6]
  simp only [decide_eq_false (Ne.symm h1), decide_eq_false (Ne.symm h2), decide_eq_false (Ne.symm h3), decide_eq_false (Ne.symm h4), decide_eq_false (Ne.symm h5), decide_eq_false (Ne.symm h6)]
  rfl

abbrev s_is_operation : Stmt := top 12
theorem sc_is_operation : FnScope ["part"] ["part"] (defScope s_is_operation) := ⟨rfl, rfl, rfl, by decide +kernel, rfl, by decide +kernel, by decide +kernel⟩
theorem ok_is_operation {f : Addr} {fd : FuncData} (F : Fun K "_is_operation" "_is_operation" s_is_operation f fd) (m_len : mg "len" = none) (m_isinstance : mg "isinstance" = none) (m_str : mg "str" = none) (h_OPERAND_COUNTS : KTab K w mg "OPERAND_COUNTS" [("plus", 2), ("minus", 2), ("times", 2), ("not", 1), ("and", 2), ("or", 2)]) : FnG P w K mg base CX0 1 f fd ["part"] (sp_is_operation K) := by
  refine okG F sc_is_operation (fun vs H Q E h => ?_) (fun cdv A' o s H vs Q E hr h => ?_)
  · obtain ⟨v, ds, rfl, _⟩ := h
    rfl
  obtain ⟨v, ds, rfl, hv, hl, done⟩ := h
  refine ⟨_, (Evl.pss_cut (ps_if (PW.pt (pw_or (pt_cmpR op_eq (pe_callB call_len_seq (by rfl) m_len (by decide +kernel) (pa_cons (pv 0) pa_nil)) pe_int (nomark _)) (pw_or1 (pt_not (pt_val (pe_callB call_isi (by rfl) m_isinstance (by decide +kernel) (pa_cons (pe_ix ix_tup (pv 0) pe_int (fun _ _ => rfl)) (pa_cons (pe_bltn (v := .ty "str") (by rfl) m_str (by decide +kernel) rfl) pa_nil)))))))) (pss_one (ps_ret pe_bl)) pss_nil)
      (pss_one (ps_ret (pe_cmpR op_eq (pe_kget h_OPERAND_COUNTS (by rfl) (pe_ix ix_tup (pv 0) pe_int (fun _ _ => rfl)) ⟨rfl, rfl, rfl, rfl⟩) (pe_op op_sub (pe_callB call_len_seq (by rfl) m_len (by decide +kernel) (pa_cons (pv 0) pa_nil)) pe_int) (nomark _))))), ?_⟩
  obtain ⟨a, xs, rfl, hT, hA⟩ := sv_t hv
  have len := hA.len
  refine ⟨fun σ' H' => (∃ w r, ds = .s w :: r) ∧ H' = H ∧ σ' = [some (.ref a)], ?_, ?_⟩
  · refine ⟨_, rfl, a, _, rfl, .inr hT, rfl, _, rfl, ?_⟩
    cases hA with
    | nil =>
      refine if_true_of (decide_eq_true rfl) ?_
      exact done
    | @cons u us d r hu hr' =>
      refine if_false_of (decide_eq_false (fun z => by have z := V.int.inj z; simp at z; omega)) ?_
      obtain ⟨t, hx, kb⟩ := isi_s hu
      refine ⟨_, rfl, a, _, 0, u, rfl, rfl, hT, (show atI (u :: us) ((0 : Nat) : Int) = some u from atI_nat rfl), _, _, _, _, _, rfl, .ty _, hx, kb, _, rfl, ?_⟩
      cases d with
      | s w => exact iteF ⟨⟨w, r, rfl⟩, rfl, rfl⟩
      | i n => exact iteT done
      | o => exact iteT done
      | t ys => exact iteT done
  rintro _ _ ⟨⟨w, r, rfl⟩, rfl, rfl⟩
  cases hA with
  | @cons u us d r' hu hr' =>
    obtain ⟨rfl, _⟩ := sv_s hu
    refine ⟨_, rfl, a, _, 0, .str w, rfl, rfl, hT, (show atI (V.str w :: us) ((0 : Nat) : Int) = some (.str w) from atI_nat rfl), w, rfl, _, rfl, a, _, rfl, .inr hT, _, _, rfl, rfl, ?_⟩
    rw [tab_opc]
    have e : Sx.isOp (.t (.s w :: r)) = decide (Sk.opc w = some r.length) := rfl
    rw [e] at done
    have el : ((V.str w :: us).length : Int) - 1 = (r.length : Int) := by
      have : us.length = r.length := by simpa using len
      rw [List.length_cons, this]; omega
    cases c : Sk.opc w with
    | none =>
      rw [c] at done
      refine ⟨rfl, ?_⟩
      rw [decide_eq_false (by intro z; cases z)] at done ⊢
      exact done
    | some n =>
      rw [c] at done
      refine ⟨rfl, ?_⟩
      show Q (.bl (decide (V.int (n : Int) = V.int (((V.str w :: us).length : Int) - 1)))) _
      rw [el]
      have : decide (V.int (n : Int) = V.int (r.length : Int)) = decide (some n = some r.length) := by
        by_cases z : n = r.length
        · rw [z, decide_eq_true rfl, decide_eq_true rfl]
        · rw [decide_eq_false (fun w => z (by have := V.int.inj w; omega)), decide_eq_false (fun w => z (Option.some.inj w))]
      rw [this]
      exact done

def sp_is_built (K : PySem.W.Frag) : Sp := fun vs H Q _ => ∃ (v : V) (a : Sk) (q : Int), vs = [v, .int q] ∧ Sv K H v a ∧ a.size ≤ 100000 ∧ ∀ H', Same H H' → Q (.bl (Sk.built q a)) H'

abbrev s_is_built : Stmt := top 11
theorem sc_is_built : FnScope ["part", "modulus"] ["part", "modulus"] (defScope s_is_built) := ⟨rfl, rfl, rfl, by decide +kernel, rfl, by decide +kernel, by decide +kernel⟩
theorem ok_is_built {f : Addr} {fd : FuncData} (F : Fun K "_is_built" "_is_built" s_is_built f fd) (m_isinstance : mg "isinstance" = none) (m_tuple : mg "tuple" = none) (c__is_operation : Cal P w K mg base "_is_operation" 1 ["part"] (sp_is_operation K)) (c_is_residue : Cal P w K mg base "is_residue" 2 ["value", "modulus"] (sp_is_residue K)) (c_is_variable : Cal P w K mg base "is_variable" 1 ["value"] (sp_is_variable K)) : FnG P w K mg base CX0 3 f fd ["part", "modulus"] (sp_is_built K) := by
  obtain ⟨f__is_operation, fd__is_operation, G__is_operation, m__is_operation, k__is_operation, b__is_operation⟩ := c__is_operation.ex
  obtain ⟨f_is_residue, fd_is_residue, G_is_residue, m_is_residue, k_is_residue, b_is_residue⟩ := c_is_residue.ex
  obtain ⟨f_is_variable, fd_is_variable, G_is_variable, m_is_variable, k_is_variable, b_is_variable⟩ := c_is_variable.ex
  refine okG F sc_is_built (fun vs H Q E h => ?_) (fun cdv A' o s H vs Q E hr h => ?_)
  · obtain ⟨v, a, q, rfl, _⟩ := h
    rfl
  obtain ⟨v, a, q, rfl, hv, hl, done⟩ := h
  refine ⟨_, (pss_cons (ps_if (pt_val (pe_callB call_isi (by rfl) m_isinstance (by decide +kernel) (pa_cons (pv 0) (pa_cons (pe_bltn (v := .ty "tuple") (by rfl) m_tuple (by decide +kernel) rfl) pa_nil)))) (pss_one (ps_ret (ge_call G__is_operation (hr.mono (by first | decide | omega)) (by rfl) m__is_operation k__is_operation b__is_operation .nil pass0 (pa_cons (pv 0) pa_nil)))) pss_nil)
      (pss_one (ps_ret (pe_or (ge_call G_is_residue (hr.mono (by first | decide | omega)) (by rfl) m_is_residue k_is_residue b_is_residue .nil pass0 (pa_cons (pv 0) (pa_cons (pv 1) pa_nil))) (pe_one (ge_call G_is_variable (hr.mono (by first | decide | omega)) (by rfl) m_is_variable k_is_variable b_is_variable .nil pass0 (pa_cons (pv 0) pa_nil))))))), ?_⟩
  obtain ⟨t, hx, kb⟩ := isi_t hv
  rw [Sx.built_eq] at done
  refine ⟨_, rfl, _, _, _, _, _, rfl, .ty _, hx, kb, _, rfl, ?_⟩
  have leaf : a.isT = false → (∃ b : Bool, Sx.isRes q a = b ∧ if b = true then Q (.bl true) H else ∀ H', Same H H' → Q (.bl (Sx.isVar a)) H') := fun z => by
    rw [z, if_neg Bool.false_ne_true] at done
    refine ⟨_, rfl, ?_⟩
    cases c : Sx.isRes q a with
    | true => rw [c] at done; exact iteT (done H (Same.refl _))
    | false => rw [c] at done; exact iteF done
  cases a with
  | t ds =>
    refine iteT ⟨_, rfl, _, ds, rfl, hv, ?_, done H (Same.refl _)⟩
    have := Sk.sizes_len ds
    rw [Sk.size] at hl
    omega
  | s x =>
    obtain ⟨b, e, k⟩ := leaf rfl
    refine iteF ⟨_, rfl, _, rfl, _, .s x, q, rfl, hv, b, congrArg V.bl e, ?_⟩
    cases b with
    | true => exact iteT (iteT_inv k)
    | false => exact iteF ⟨_, rfl, _, .s x, rfl, hv, fun H' s' => (iteF_inv k) H' s'⟩
  | i n =>
    obtain ⟨b, e, k⟩ := leaf rfl
    refine iteF ⟨_, rfl, _, rfl, _, .i n, q, rfl, hv, b, congrArg V.bl e, ?_⟩
    cases b with
    | true => exact iteT (iteT_inv k)
    | false => exact iteF ⟨_, rfl, _, .i n, rfl, hv, fun H' s' => (iteF_inv k) H' s'⟩
  | o =>
    obtain ⟨b, e, k⟩ := leaf rfl
    refine iteF ⟨_, rfl, _, rfl, _, .o, q, rfl, hv, b, congrArg V.bl e, ?_⟩
    cases b with
    | true => exact iteT (iteT_inv k)
    | false => exact iteF ⟨_, rfl, _, .o, rfl, hv, fun H' s' => (iteF_inv k) H' s'⟩

end
end Vk06

namespace Vk06
open PySem PySem.Spec PyProof.Rows L2 Vx
section
variable {P : Program} {w : World} {K : PySem.W.Frag} {mg : Str → Option Value} {base : Heap}
def sp_formula_error (K : PySem.W.Frag) : Sp := fun vs H Q _ => ∃ (v : V) (a : Sk) (q : Int), vs = [v, .int q] ∧ Sv K H v a ∧ a.size ≤ 1000 ∧ ∀ x H', Same H H' → Dp K H' x (Sk.resD (Sk.res q a)) → Q x H'
open Sk in
/-- the state between two turns -/
structure Fs (K : PySem.W.Frag) (H H' : Hp) (W : Addr) (q : Int) (a : Sk) (es : Wt) (ws : List V) (l t d : Nat) : Prop where
  same : Same H H'
  at_ : H' W = some (.lst ws.reverse)
  ens : Ens K H' ws es
  bad : badW q es = a.bad q []
  cnt : a.bad q [] = none → l + leavesW es = a.leaves ∧ t + tupsW es = a.tups ∧ max d (depthW es) = a.depth
  few : sizeW es ≤ a.size
  pth : ∀ e ∈ es, e.2.length + e.1.size ≤ a.size
theorem kids_get (p : List Int) : ∀ (r : List Sk) (k i : Nat) (c : Sk), r[i]? = some c → Sk.kids p (k + i) (r.drop i) = (c, p ++ [((k + i : Nat) : Int)]) :: Sk.kids p (k + i + 1) (r.drop (i + 1))
  | [], k, i, c, h => by simp at h
  | x :: r, k, 0, c, h => by
    obtain rfl := Option.some.inj h
    rfl
  | x :: r, k, i + 1, c, h => by
    have := kids_get p r (k + 1) i c (by simpa using h)
    rw [show k + 1 + i = k + (i + 1) by omega] at this
    exact this
theorem kids_mem (p : List Int) : ∀ (r : List Sk) (k : Nat), ∀ e ∈ Sk.kids p k r, e.2.length = p.length + 1 ∧ e.1.size ≤ Sk.sizes r
  | [], k, e, h => nomatch h
  | x :: r, k, e, h => by
    rw [Sk.sizes]
    rcases List.mem_cons.mp h with rfl | h
    · exact ⟨by simp, Nat.le_add_right _ _⟩
    · obtain ⟨h1, h2⟩ := kids_mem p r (k + 1) e h
      exact ⟨h1, by omega⟩
theorem max_if (i j : Nat) : (if (j : Int) > (i : Int) then (j : Int) else (i : Int)) = ((max i j : Nat) : Int) := by
  split <;> omega

abbrev s_formula_error : Stmt := top 10
theorem sc_formula_error : FnScope ["value", "modulus", "leaves", "tuples", "depth", "waiting", "part", "path", "position"] ["value", "modulus"] (defScope s_formula_error) := ⟨rfl, rfl, rfl, by decide +kernel, rfl, by decide +kernel, by decide +kernel⟩
theorem ok_formula_error {f : Addr} {fd : FuncData} (F : Fun K "formula_error" "formula_error" s_formula_error f fd) (m_isinstance : mg "isinstance" = none) (m_tuple : mg "tuple" = none) (m_max : mg "max" = none) (m_reversed : mg "reversed" = none) (m_range : mg "range" = none) (m_len : mg "len" = none) (c__is_built : Cal P w K mg base "_is_built" 3 ["part", "modulus"] (sp_is_built K)) (h_MAX_LEAVES : ∃ t, mg "MAX_LEAVES" = some (.int 8 t)) (h_MAX_TUPLES : ∃ t, mg "MAX_TUPLES" = some (.int 16 t)) (h_MAX_DEPTH : ∃ t, mg "MAX_DEPTH" = some (.int 12 t)) : FnG P w K mg base CX0 4 f fd ["value", "modulus"] (sp_formula_error K) := by
  obtain ⟨f__is_built, fd__is_built, G__is_built, m__is_built, k__is_built, b__is_built⟩ := c__is_built.ex
  refine okG F sc_formula_error (fun vs H Q E h => ?_) (fun cdv A' o s H vs Q E hr h => ?_)
  · obtain ⟨v, a, q, rfl, _⟩ := h
    rfl
  obtain ⟨v, a, q, rfl, hv, hz, done⟩ := h
  refine ⟨_, (pss_cons (ps_set (i := 2) sc_formula_error.nd rfl (Or.inl rfl) pe_int)
      (pss_cons (ps_set (i := 3) sc_formula_error.nd rfl (Or.inl rfl) pe_int)
      (pss_cons (ps_set (i := 4) sc_formula_error.nd rfl (Or.inl rfl) pe_int)
      (pss_cons (ps_set (i := 5) sc_formula_error.nd rfl (Or.inl rfl) (pe_lst (pa_cons (pe_tup (pa_cons (pv 0) (pa_cons (pe_tup pa_nil) pa_nil))) pa_nil)))
      (pss_cons (ps_while PassesOwn.never (pt_truth (pv 5) (fun _ => rfl)) (pss_cons (ps_asg (pe_bm0 PySem.F.plainAttrs_list PySem.F.slot_list_pop PySem.F.type_list_pop mt_pop (pv 5)) (pg_tup rfl (pgs_cons (pg_name (i := 6) sc_formula_error.nd rfl (Or.inl rfl)) (pgs_cons (pg_name (i := 7) sc_formula_error.nd rfl (Or.inl rfl)) pgs_nil))))
      (pss_cons (ps_if (pt_not (pt_val (ge_call G__is_built (hr.mono (by first | decide | omega)) (by rfl) m__is_built k__is_built b__is_built .nil pass0 (pa_cons (pv 6) (pa_cons (pv 1) pa_nil))))) (pss_one (ps_ret (pe_tup (pa_cons pe_str (pa_cons (pv 7) pa_nil))))) pss_nil)
      (pss_one (ps_if (pt_val (pe_callB call_isi (by rfl) m_isinstance (by decide +kernel) (pa_cons (pv 6) (pa_cons (pe_bltn (v := .ty "tuple") (by rfl) m_tuple (by decide +kernel) rfl) pa_nil)))) (pss_cons (ps_aug (i := 3) sc_formula_error.nd rfl (Or.inl rfl) pe_int ip_add)
      (pss_cons (ps_set (i := 4) sc_formula_error.nd rfl (Or.inl rfl) (pe_callB (call_max2 rfl) (by rfl) m_max (by decide +kernel) (pa_cons (pv 4) (pa_cons (pe_op op_add (pe_callB call_len_seq (by rfl) m_len (by decide +kernel) (pa_cons (pv 7) pa_nil)) pe_int) pa_nil))))
      (pss_one (ps_for PassesOwn.never rfl (pi_revR (by rfl) m_reversed (prg_2 rfl m_range pe_int (pe_callB call_len_seq (by rfl) m_len (by decide +kernel) (pa_cons (pv 6) pa_nil)))) (pg_name (i := 8) sc_formula_error.nd rfl (Or.inl rfl)) (pss_one (ps_expr (pe_bm PySem.F.plainAttrs_list PySem.F.slot_list_append PySem.F.type_list_append mt_append (pv 5) (pa_cons (pe_tup (pa_cons (pe_ix ix_tup (pv 6) (pv 8) (fun _ _ => rfl)) (pa_cons (pe_tup (StX.pa_star (pv 7) (pa_cons (pv 8) pa_nil))) pa_nil))) pa_nil)))))))) (pss_one (ps_aug (i := 2) sc_formula_error.nd rfl (Or.inl rfl) pe_int ip_add)))))))
      (Evl.pss_cut (ps_if (PW.pt (pw_or (pt_cmpR op_gt (pv 2) (pe_cI h_MAX_LEAVES (by rfl)) (nomark _)) (pw_or (pt_cmpR op_gt (pv 3) (pe_cI h_MAX_TUPLES (by rfl)) (nomark _)) (pw_or1 (pt_cmpR op_gt (pv 4) (pe_cI h_MAX_DEPTH (by rfl)) (nomark _)))))) (pss_one (ps_ret (pe_tup (pa_cons pe_str (pa_cons (pe_tup pa_nil) pa_nil))))) pss_nil)
      (pss_one (ps_ret pe_non)))))))), ?_⟩
  refine ⟨_, rfl, Nat.zero_le _, fun p0 hp0 => ⟨(by show 2 ≤ sizeLine; decide), fun e1 he1 => ⟨(by show 1 ≤ sizeLine; decide), fun W hW => ?_⟩⟩⟩
  have z1000 : 1000 < sizeLine := by decide
  have sp0 := same_new hp0 (.tup [])
  have se1 := same_new he1 (.tup [v, .ref p0])
  have sW := same_new hW (.lst [V.ref e1])
  have hW0 : H W = none := (sp0.trans se1).free hW
  refine ⟨fun m σ' H' => ∃ (ws : List V) (es : Sk.Wt) (l t d : Nat) (x6 x7 x8 : Option V), m = Sk.sizeW es ∧ Fs K H H' W q a es ws l t d ∧ σ' = [some v, some (.int q), some (.int (l : Int)), some (.int (t : Int)), some (.int (d : Int)), some (.ref W), x6, x7, x8],
    ⟨_, [.ref e1], [(a, [])], 0, 0, 0, none, none, none, rfl, ?_, rfl⟩, ?_⟩
  · have hv2 := Sv.kp (.same (sp0.trans (se1.trans sW))) hv
    refine ⟨sp0.trans (se1.trans sW), upd_same, .cons ⟨e1, p0, v, rfl, ?_, ?_, hv2⟩ .nil, ?_, fun _ => ⟨?_, ?_, ?_⟩, ?_, ?_⟩
    · exact SqT.of (sW _ _ upd_same)
    · exact SqT.of (sW _ _ (se1 _ _ upd_same))
    · show (match Sk.bad q a [] with | some z => some z | none => none) = _
      cases Sk.bad q a [] <;> rfl
    · show 0 + (a.leaves + 0) = _; omega
    · show 0 + (a.tups + 0) = _; omega
    · show max 0 (max (if a.depth = 0 then 0 else 0 + a.depth) 0) = _
      split <;> omega
    · exact Nat.le_refl _
    · intro e he
      obtain rfl := List.mem_singleton.mp he
      show 0 + a.size ≤ a.size
      omega
  rintro m σ' H' ⟨ws, es, l, t, d, x6, x7, x8, rfl, fs, rfl⟩
  refine ⟨_, rfl, _, .inl ⟨_, SqL.of fs.at_, rfl⟩, ?_⟩
  have hens := fs.ens
  cases hens with
  | nil =>
    refine if_false_of rfl ?_
    have hb : a.bad q [] = none := fs.bad.symm
    obtain ⟨c1, c2, c3⟩ := fs.cnt hb
    have c1 : l = a.leaves := c1
    have c2 : t = a.tups := c2
    have c3 : d = a.depth := by have : max d 0 = a.depth := c3; omega
    have hres : Sk.res q a = if a.leaves > 8 ∨ a.tups > 16 ∨ a.depth > 12 then some none else none := by unfold Sk.res; rw [hb]
    have big : (a.leaves > 8 ∨ a.tups > 16 ∨ a.depth > 12) → ∀ x H2, Same H' H2 → Dp K H2 x (.tuple [.str "size", .tuple []]) → Q x H2 := fun c x H2 s2 hx => done x H2 (fs.same.trans s2) (by rw [hres, if_pos c]; exact hx)
    have ret : (a.leaves > 8 ∨ a.tups > 16 ∨ a.depth > 12) → Nat.zero ≤ sizeLine ∧ ∀ r0, H' r0 = none → 2 ≤ sizeLine ∧ ∀ r1, upd H' r0 (.tup []) r1 = none → Q (.ref r1) (upd (upd H' r0 (.tup [])) r1 (.tup [.str "size", .ref r0])) := fun c =>
      ⟨Nat.zero_le _, fun r0 h0 => ⟨by decide, fun r1 h1 => big c _ _ ((same_new h0 _).trans (same_new h1 _)) (.tup (SqT.of upd_same) (.cons (.str _) (.cons (.tup (SqT.of (same_new h1 _ _ _ upd_same)) .nil) .nil)))⟩⟩
    refine ⟨fun σ2 H2 => ¬ (a.leaves > 8 ∨ a.tups > 16 ∨ a.depth > 12) ∧ H2 = H', ?_, ?_⟩
    · refine ⟨_, rfl, _, _, rfl, rfl, _, rfl, ?_⟩
      refine ite2 (fun c => ret (.inl ?_)) (fun n1 => ?_)
      · have := of_decide_eq_true c; omega
      refine ⟨_, rfl, _, _, rfl, rfl, _, rfl, ?_⟩
      refine ite2 (fun c => ret (.inr (.inl ?_))) (fun n2 => ?_)
      · have := of_decide_eq_true c; omega
      refine ⟨_, rfl, _, _, rfl, rfl, _, rfl, ?_⟩
      refine ite2 (fun c => ret (.inr (.inr ?_))) (fun n3 => ⟨?_, rfl⟩)
      · have := of_decide_eq_true c; omega
      have n1 : ¬ (l : Int) > 8 := fun z => n1 (decide_eq_true z)
      have n2 : ¬ (t : Int) > 16 := fun z => n2 (decide_eq_true z)
      have n3 : ¬ (d : Int) > 12 := fun z => n3 (decide_eq_true z)
      omega
    rintro σ2 _ ⟨no, rfl⟩
    exact done _ _ fs.same (by rw [hres, if_neg no]; exact .non)
  | @cons y b ws es hy hr2 =>
    refine if_true_of (by rw [List.reverse_cons, List.isEmpty_eq_false_iff.mpr (by simp)]; rfl) ?_
    obtain ⟨b, p⟩ := b
    obtain ⟨ea, pt, u, rfl, hT, hP, hu⟩ := hy
    refine ⟨fun σ2 H2 => ∃ (ws' : List V) (es' : Sk.Wt) (l t d : Nat) (x6 x7 x8 : Option V), Sk.sizeW es' < Sk.sizeW ((b, p) :: es) ∧ Fs K H H2 W q a es' ws' l t d ∧ σ2 = [some v, some (.int q), some (.int (l : Int)), some (.int (t : Int)), some (.int (d : Int)), some (.ref W), x6, x7, x8],
      fun σ2 H2 ⟨ws', es', l, t, d, x6, x7, x8, lt, f, e⟩ => ⟨_, lt, ws', es', l, t, d, x6, x7, x8, rfl, f, e⟩, ?_⟩
    have kW := Kp.list (K := K) fs.at_ ws.reverse
    refine ⟨_, rfl, .inl ⟨rfl, _, SqL.of fs.at_⟩, W, _, .ref ea, rfl, rfl, fs.at_, last_of _ _, ?_⟩
    rw [drop_of]
    refine ⟨ea, _, rfl, kW.tup _ _ hT, rfl, u, _, rfl, .ref pt, _, rfl, rfl, ?_⟩
    have hP1 := kW.tup _ _ hP
    have hu1 := Sv.kp kW hu
    have hens1 := Ens.kp kW hr2
    have sH1 : Same H (upd H' W (.lst ws.reverse)) := same_mut fs.same hW0
    have hW1 : upd H' W (.lst ws.reverse) W = some (.lst ws.reverse) := upd_same
    revert hP1 hu1 hens1 sH1 hW1
    generalize upd H' W (.lst ws.reverse) = H1
    intro hP1 hu1 hens1 sH1 hW1
    have hpth : p.length + b.size ≤ a.size := fs.pth (b, p) List.mem_cons_self
    have hpos := Sk.size_pos b
    refine ⟨_, rfl, _, rfl, u, b, q, rfl, hu1, by omega, fun H2 s2 => ⟨_, rfl, ?_⟩⟩
    have hP2 := Same.seqT s2 hP1
    have hu2 := Sv.kp (.same s2) hu1
    have hens2 := Ens.kp (.same s2) hens1
    have sH2 := sH1.trans s2
    have hW2 := s2 _ _ hW1
    have hbad : (match Sk.bad q b p with | some z => some z | none => Sk.badW q es) = a.bad q [] := fs.bad
    cases hb : Sk.built q b with
    | false =>
      refine iteT ⟨_, rfl, (by show 2 ≤ sizeLine; decide), fun r hr0 => ?_⟩
      have sr := same_new hr0 (.tup [V.str "form", .ref pt])
      have e : Sk.bad q b p = some p := by
        cases b with
        | t xs =>
          cases xs with
          | nil => rw [Sk.bad, hb] <;> first | rfl | (intro x r h; cases h)
          | cons x r => rw [Sk.bad, hb]; rfl
        | s x => rw [Sk.bad, hb] <;> first | rfl | (intro x r h; cases h)
        | i n => rw [Sk.bad, hb] <;> first | rfl | (intro x r h; cases h)
        | o => rw [Sk.bad, hb] <;> first | rfl | (intro x r h; cases h)
      rw [e] at hbad
      refine done _ _ (sH2.trans sr) ?_
      unfold Sk.res
      rw [← hbad]
      exact .tup (SqT.of upd_same) (.cons (.str _) (.cons (.tup (Same.seqT sr hP2) (dp_ints K _ p)) .nil))
    | true =>
      refine iteF ?_
      obtain ⟨ty, hx, kb⟩ := isi_t hu2
      refine ⟨_, rfl, _, _, _, _, _, rfl, .ty _, hx, kb, _, rfl, ?_⟩
      have leaf : b.isT = false → Sk.bad q b p = none ∧ b.leaves = 1 ∧ b.tups = 0 ∧ b.depth = 0 := fun z => by
        cases b with
        | t xs => cases z
        | s x => exact ⟨by rw [Sk.bad, hb] <;> first | rfl | (intro x r h; cases h), rfl, rfl, rfl⟩
        | i n => exact ⟨by rw [Sk.bad, hb] <;> first | rfl | (intro x r h; cases h), rfl, rfl, rfl⟩
        | o => exact ⟨by rw [Sk.bad, hb] <;> first | rfl | (intro x r h; cases h), rfl, rfl, rfl⟩
      cases ht : b.isT with
      | false =>
        obtain ⟨l1, l2, l3, l4⟩ := leaf ht
        refine iteF ⟨_, rfl, _, _, rfl, rfl, ws, es, l + 1, t, d, _, _, _, ?_, ⟨sH2, hW2, hens2, ?_, fun hn => ?_, ?_, fun e he => fs.pth e (List.mem_cons_of_mem _ he)⟩, rfl⟩
        · show _ < b.size + Sk.sizeW es; omega
        · rw [l1] at hbad; exact hbad
        · obtain ⟨c1, c2, c3⟩ := fs.cnt hn
          have c1 : l + (b.leaves + Sk.leavesW es) = a.leaves := c1
          have c2 : t + (b.tups + Sk.tupsW es) = a.tups := c2
          have c3 : max d (max (if b.depth = 0 then 0 else p.length + b.depth) (Sk.depthW es)) = a.depth := c3
          rw [l4, if_pos rfl] at c3
          exact ⟨by omega, by omega, by omega⟩
        · have : b.size + Sk.sizeW es ≤ a.size := fs.few
          omega
      | true =>
        refine iteT ?_
        cases b with
        | s x => cases ht
        | i n => cases ht
        | o => cases ht
        | t xs =>
          cases xs with
          | nil => cases hb
          | cons x r =>
            obtain ⟨b0, ys, rfl, hB, hA⟩ := sv_t hu2
            have ylen := hA.len
            rw [List.length_cons] at ylen
            refine ⟨_, rfl, _, _, rfl, rfl, ?_⟩
            refine ⟨_, rfl, _, rfl, pt, _, rfl, .inr hP2, _, _, rfl, rfl, _, _, rfl, ?_⟩
            rw [List.length_map, show ((p.length : Int) + 1) = ((p.length + 1 : Nat) : Int) by omega, max_if]
            have hsz : (Sk.t (x :: r)).size = x.size + Sk.sizes r + 1 := by rw [Sk.size, Sk.sizes]
            have hlen := Sk.sizes_len r
            have hfew : (Sk.t (x :: r)).size + Sk.sizeW es ≤ a.size := fs.few
            refine ⟨_, rfl, b0, _, rfl, .inr hB, ?_⟩
            have yi : (ys.length : Int) = (r.length : Int) + 1 := by omega
            rw [yi]
            have b62 : (1001 : Int) < 2 ^ 62 := by decide
            have n62 : -(2 : Int) ^ 62 ≤ 1 := by decide
            have p62 : (1 : Int) < 2 ^ 62 := by decide
            refine ⟨1, _, rfl, rfl, n62, p62, by omega, by omega, ?_⟩
            rw [show (1 : Int) + (((((r.length : Int) + 1) - 1).toNat : Nat) : Int) - 1 = (r.length : Int) by omega, show (((r.length : Int) + 1) - 1).toNat = r.length by omega]
            refine for_rangeC (fun j σ' H3 => (∃ ws2 : List V, H3 W = some (.lst ws2.reverse) ∧ Ens K H3 ws2 (Sk.kids p (1 + (r.length - j)) (r.drop (r.length - j)) ++ es)) ∧ Same H H3 ∧ SqT K H3 b0 ys ∧ SvAll K H3 ys (x :: r) ∧ SqT K H3 pt (p.map V.int) ∧
              ∃ x8, σ' = [some v, some (.int q), some (.int (l : Int)), some (.int ((t : Int) + 1)), some (.int ((max d (p.length + 1) : Nat) : Int)), some (.ref W), some (.ref b0), some (.ref pt), x8]) ⟨⟨ws, hW2, ?_⟩, sH2, hB, hA, hP2, _, rfl⟩ ?_ ?_
            · rw [show r.length - 0 = r.length by omega, List.drop_length]
              exact hens2
            · rintro j σ' H3 hj ⟨⟨ws2, eW3, hE3⟩, sH3, hB3, hA3, hP3, x8, rfl⟩
              obtain ⟨i, hi⟩ : ∃ i, r.length - j = i + 1 := ⟨r.length - j - 1, by omega⟩
              have il : i < r.length := by omega
              have pos : (r.length : Int) + ((j : Nat) : Int) * (-1) = ((1 + i : Nat) : Int) := by omega
              rw [pos]
              obtain ⟨u', hu', su'⟩ := SvAll.get (i := 1 + i) (d := r[i]) hA3 (by rw [show 1 + i = i + 1 by omega, List.getElem?_cons_succ]; exact List.getElem?_eq_getElem il)
              have hel := Paired.length hE3
              rw [List.length_append, Sk.kids_len, List.length_drop] at hel
              have hes := Sk.sizeW_len es
              refine ⟨_, rfl, .inl ⟨rfl, _, SqL.of eW3⟩, _, rfl, _, rfl, b0, ys, _, u', rfl, rfl, hB3, atI_nat hu', ?_⟩
              refine ⟨_, rfl, pt, _, rfl, .inl hP3, _, rfl, ?_⟩
              refine ⟨?_, fun t1 ht1 => ⟨(by show 2 ≤ sizeLine; decide), fun t2 ht2 => ?_⟩⟩
              · rw [List.length_append, List.length_map]
                exact Nat.le_of_lt (Nat.lt_of_le_of_lt (show p.length + 1 ≤ 1000 by omega) z1000)
              have s1 := same_new ht1 (.tup (p.map V.int ++ [V.int ((1 + i : Nat) : Int)]))
              have s2 := same_new ht2 (.tup [u', V.ref t1])
              have eW4 := s2 _ _ (s1 _ _ eW3)
              refine ⟨W, _, _, rfl, rfl, eW4, ?_, ?_⟩
              · rw [List.length_reverse, hel]
                exact Nat.lt_of_le_of_lt (show _ ≤ 1000 by omega) z1000
              have k12 : Kp K H3 _ := Kp.same (s1.trans s2)
              have kL := Kp.list (K := K) eW4 (ws2.reverse ++ [V.ref t2])
              have kk := k12.trans kL
              refine ⟨⟨.ref t2 :: ws2, by rw [upd_same, List.reverse_cons], ?_⟩, same_mut (sH3.trans (s1.trans s2)) hW0, kk.tup _ _ hB3, SvAll.kp kk hA3, kk.tup _ _ hP3, _, rfl⟩
              have kg := kids_get p r 1 i r[i] (List.getElem?_eq_getElem il)
              rw [show r.length - (j + 1) = i by omega, kg, show 1 + i + 1 = 1 + (r.length - j) by omega, show i + 1 = r.length - j by omega]
              refine .cons ⟨t2, t1, u', rfl, kL.tup _ _ (SqT.of upd_same), kL.tup _ _ ?_, Sv.kp kk su'⟩ (Ens.kp kk hE3)
              refine SqT.of (s2 _ _ ?_)
              rw [upd_same, List.map_append]
              rfl
            · rintro σ' H3 ⟨⟨ws2, eW3, hE3⟩, sH3, hB3, hA3, hP3, x8, rfl⟩
              rw [Nat.sub_self, List.drop_zero] at hE3
              have hbads : Sk.bad q (.t (x :: r)) p = Sk.bads q r p 1 := by rw [Sk.bad, if_pos hb]
              rw [hbads] at hbad
              refine ⟨ws2, _, l, t + 1, max d (p.length + 1), _, _, _, ?_, ⟨sH3, eW3, hE3, ?_, fun hn => ?_, ?_, fun e he => ?_⟩, rfl⟩
              · rw [Sk.sizeW_kids]
                show _ < (Sk.t (x :: r)).size + Sk.sizeW es
                omega
              · rw [Sk.badW_kids]
                exact hbad
              · obtain ⟨c1, c2, c3⟩ := fs.cnt hn
                have c1 : l + ((Sk.t (x :: r)).leaves + Sk.leavesW es) = a.leaves := c1
                have c2 : t + ((Sk.t (x :: r)).tups + Sk.tupsW es) = a.tups := c2
                have c3 : max d (max (if (Sk.t (x :: r)).depth = 0 then 0 else p.length + (Sk.t (x :: r)).depth) (Sk.depthW es)) = a.depth := c3
                rw [Sk.leaves] at c1
                rw [Sk.tups] at c2
                rw [Sk.depth, if_neg (by omega)] at c3
                rw [Sk.leavesW_kids, Sk.tupsW_kids, Sk.depthW_kids]
                refine ⟨by omega, by omega, ?_⟩
                split <;> omega
              · rw [Sk.sizeW_kids]
                omega
              · rcases List.mem_append.mp he with he | he
                · obtain ⟨h1, h2⟩ := kids_mem p r 1 e he
                  omega
                · exact fs.pth e (List.mem_cons_of_mem _ he)

end
end Vk06

namespace Vk06
open PySem PySem.Spec PyProof.Rows L2 Vx
section
variable {P : Program} {w : World} {K : PySem.W.Frag} {mg : Str → Option Value} {base : Heap}
def sp_law_pen (K : PySem.W.Frag) : Sp := fun vs H Q _ => ∃ (a : Addr) (ns : List Int), vs = [.ref a] ∧ SqL K H a (ns.map V.int) ∧ ∀ (H' : Hp) (p : Addr), Same H H' → H p = none → Pen K H' p → Q (.ref p) H'

abbrev s_law_pen : Stmt := top 14
theorem sc_law_pen : FnScope ["script"] ["script"] (defScope s_law_pen) := ⟨rfl, rfl, rfl, by decide +kernel, rfl, by decide +kernel, by decide +kernel⟩
theorem ok_law_pen {f : Addr} {fd : FuncData} (F : Fun K "_law_pen" "_law_pen" s_law_pen f fd) (m_list : mg "list" = none) : FnG P w K mg base CX0 1 f fd ["script"] (sp_law_pen K) := by
  refine okG F sc_law_pen (fun vs H Q E h => ?_) (fun cdv A o s H vs Q E hr h => ?_)
  · obtain ⟨a, ns, rfl, _⟩ := h
    rfl
  obtain ⟨a, ns, rfl, hS, q⟩ := h
  refine ⟨_, (pss_one (ps_ret (pe_lst (pa_cons (pe_callTy call_list_of (by rfl) m_list (by decide +kernel) (pa_cons (pe_slice sl_list (pv 0) po_none (po_some pe_int)) pa_nil)) (pa_cons pe_int (pa_cons pe_int pa_nil)))))), ?_⟩
  obtain ⟨ms, em⟩ := cutV_map ns none (some 63)
  refine ⟨_, rfl, 63, rfl, a, _, rfl, hS, fun p hp => ?_⟩
  refine ⟨p, _, rfl, .inl (SqL.of upd_same), fun l hl => ?_⟩
  refine ⟨(by show 3 ≤ sizeLine; decide), fun d hd => ?_⟩
  have s1 := same_new hp (.lst (cutV (ns.map V.int) none (some 63)))
  have s2 := same_new hl (.lst (cutV (ns.map V.int) none (some 63)))
  have s3 := same_new hd (.lst [V.ref l, V.int 0, V.int 0])
  refine q _ d (s1.trans (s2.trans s3)) (s1.free (s2.free hd)) ⟨l, ms, 0, 0, upd_same, ?_, ne_of_none upd_same hd⟩
  rw [← em]
  exact SqL.of (s3 _ _ upd_same)

def sp_law_fresh (K : PySem.W.Frag) : Sp := fun vs H Q _ => ∃ p, vs = [.ref p] ∧ Pen K H p ∧ ∀ H' (r : Int), Dr p H H' → Q (.int r) H'
theorem fresh_bound (a p : Int) (h : p = 2305843009213693951) : 0 ≤ a % p ∧ a % p < p := by
  subst h
  exact ⟨Int.emod_nonneg _ (by decide), Int.emod_lt_of_pos _ (by decide)⟩

abbrev s_law_fresh : Stmt := top 15
theorem sc_law_fresh : FnScope ["pen", "at", "cell", "p", "state", "found", "turn"] ["pen"] (defScope s_law_fresh) := ⟨rfl, rfl, rfl, by decide +kernel, rfl, by decide +kernel, by decide +kernel⟩
theorem ok_law_fresh {f : Addr} {fd : FuncData} (F : Fun K "_law_fresh" "_law_fresh" s_law_fresh f fd) (m_range : mg "range" = none) (m_len : mg "len" = none) : FnG P w K mg base CX0 1 f fd ["pen"] (sp_law_fresh K) := by
  refine okG F sc_law_fresh (fun vs H Q E h => ?_) (fun cdv A o s H vs Q E hr h => ?_)
  · obtain ⟨a, rfl, _⟩ := h
    rfl
  obtain ⟨p, rfl, ⟨c, ns, i, m, hP, hC, ne⟩, q⟩ := h
  refine ⟨_, (pss_cons (ps_set (i := 1) sc_law_fresh.nd rfl (Or.inl rfl) (pe_ix ix_list (pv 0) pe_int (fun _ _ => rfl)))
      (pss_cons (ps_asg (pe_op op_add (pv 1) pe_int) (pg_sub (pv 0) pe_int set_list))
      (pss_cons (ps_set (i := 2) sc_law_fresh.nd rfl (Or.inl rfl) pe_int)
      (Evl.pss_cut (ps_if (pt_cmpR (op_neD hr.r.units) (pe_ix ix_list (pv 0) pe_int (fun _ _ => rfl)) (pe_lst pa_nil) (nomark _)) (pss_one (ps_set (i := 2) sc_law_fresh.nd rfl (Or.inl rfl) (pe_ix ix_list (pe_ix ix_list (pv 0) pe_int (fun _ _ => rfl)) (pe_op op_mod (pv 1) (pe_callB call_len_seq (by rfl) m_len (by decide +kernel) (pa_cons (pe_ix ix_list (pv 0) pe_int (fun _ _ => rfl)) pa_nil))) (fun _ _ => rfl)))) pss_nil)
      (Evl.pss_cut (ps_if (PW.pt (pw_and (pt_cmpR op_lt (pv 1) (pe_callB call_len_seq (by rfl) m_len (by decide +kernel) (pa_cons (pe_ix ix_list (pv 0) pe_int (fun _ _ => rfl)) pa_nil)) (nomark _)) (pw_and1 (pt_cmpR op_ge (pv 2) (pe_op op_pow pe_int pe_int) (nomark _))))) (pss_one (ps_ret (pe_op op_sub (pv 2) (pe_op op_pow pe_int pe_int)))) pss_nil)
      (pss_cons (ps_set (i := 3) sc_law_fresh.nd rfl (Or.inl rfl) pe_int)
      (pss_cons (ps_set (i := 4) sc_law_fresh.nd rfl (Or.inl rfl) (pe_op op_mod (pe_op op_add (pe_op op_add (pe_op op_mul (pv 2) pe_int) (pe_op op_mul pe_int (pv 1))) pe_int) (pv 3)))
      (pss_cons (ps_set (i := 5) sc_law_fresh.nd rfl (Or.inl rfl) (pv 4))
      (pss_cons (ps_for PassesOwn.never rfl (pi_range1 rfl m_range (pa_cons pe_int pa_nil)) (pg_name (i := 6) sc_law_fresh.nd rfl (Or.inl rfl)) (pss_cons (ps_set (i := 4) sc_law_fresh.nd rfl (Or.inl rfl) (pe_op op_mod (pe_op op_add (pe_op op_add (pe_op op_mul (pv 4) (pv 4)) (pe_op op_mul (pe_op op_mul pe_int (pe_op op_add (pv 6) pe_int)) (pe_op op_add (pv 1) pe_int))) (pv 2)) (pv 3)))
      (pss_one (ps_set (i := 5) sc_law_fresh.nd rfl (Or.inl rfl) (pe_op op_add (pe_op op_mul (pv 5) (pv 3)) (pv 4))))))
      (pss_one (ps_ret (pv 5)))))))))))), ?_⟩
  have P0 : PenAt K H p c ns i m := ⟨hP, hC, ne⟩
  have P1 := P0.put (i + 1) m
  refine ⟨_, rfl, p, _, 1, _, rfl, rfl, SqL.of hP, rfl, ?_⟩
  refine ⟨_, rfl, _, _, rfl, rfl, ?_⟩
  refine ⟨_, rfl, p, _, 1, 1, rfl, rfl, hP, rfl, ?_⟩
  have b1 : But p H (upd H p (.lst [.ref c, .int (i + 1), .int m])) := But.upd
  -- cell = 0; if pen[0] != []
  refine ⟨fun σ H2 => ∃ z : Int, σ = [some (.ref p), some (.int i), some (.int z), none, none, none, none] ∧ But p H H2 ∧ PenAt K H2 p c ns (i + 1) m, ?_, ?_⟩
  · refine ⟨_, rfl, p, _, 0, _, rfl, rfl, SqL.of P1.1, rfl, Nat.zero_le _, fun e0 he => ?_⟩
    have s1 := same_new he (.lst [])
    have P2 : PenAt K (upd (upd H p (.lst [.ref c, .int (i + 1), .int m])) e0 (.lst [])) p c ns (i + 1) m := ⟨s1 _ _ P1.1, s1.seq P1.2.1, ne⟩
    have b2 : But p H (upd (upd H p (.lst [.ref c, .int (i + 1), .int m])) e0 (.lst [])) := b1.trans (.new he _)
    refine ⟨.list (ns.map .int), .list [], .lst P2.2.1 (dp_ints K _ ns), .lst (SqL.of upd_same) .nil, shaped_ints ns, rfl, _, rfl, ?_⟩
    refine ite2 (fun hne => ?_) (fun _ => ?_)
    · have hn : ns ≠ [] := fun e => by
        subst e
        exact absurd hne (by decide)
      have hl : 0 < ((ns.map V.int).length : Int) := by
        rw [List.length_map]
        have := List.length_pos_iff.mpr hn
        omega
      have hm0 := Int.emod_nonneg i (show ((ns.map V.int).length : Int) ≠ 0 by omega)
      have hm1 := Int.emod_lt_of_pos i hl
      obtain ⟨v, hv⟩ := at_map (ns := ns) hm0 (by rw [List.length_map] at hm1 ⊢; exact hm1)
      refine ⟨_, rfl, p, _, 0, _, rfl, rfl, SqL.of P2.1, rfl, _, rfl, _, rfl, p, _, 0, _, rfl, rfl, SqL.of P2.1, rfl, c, _, rfl, .inl P2.2.1, _, _, rfl, rfl, hl, ?_⟩
      exact ⟨c, _, _, _, rfl, rfl, P2.2.1, hv, v, rfl, b2, P2⟩
    · exact ⟨0, rfl, b2, P2⟩
  · rintro σ H2 ⟨z, rfl, b2, P2⟩
    have fin : ∀ r : Int, Q (.int r) H2 := fun r => q H2 r (.put b2 P0 P2.1)
    -- if position < len(pen[0]) and cell >= 10 ** 18: return ..
    refine ⟨fun σ' H' => σ' = [some (.ref p), some (.int i), some (.int z), none, none, none, none] ∧ H' = H2, ?_, ?_⟩
    · refine ⟨_, rfl, _, rfl, p, _, 0, _, rfl, rfl, SqL.of P2.1, rfl, c, _, rfl, .inl P2.2.1, _, _, rfl, rfl, _, rfl, ?_⟩
      refine ite2 (fun _ => ?_) (fun _ => iteF ⟨rfl, rfl⟩)
      refine ⟨_, rfl, _, _, rfl, rfl, ⟨by decide, by decide, by decide⟩, _, _, rfl, rfl, _, rfl, ?_⟩
      refine ite2 (fun _ => ?_) (fun _ => ⟨rfl, rfl⟩)
      exact ⟨_, rfl, _, _, rfl, rfl, ⟨by decide, by decide, by decide⟩, _, _, rfl, rfl, fin _⟩
    rintro _ H3 ⟨rfl, rfl⟩
    -- prime, state, mixed
    refine ⟨_, rfl, _, _, rfl, rfl, .inr ⟨by decide, by decide⟩, _, rfl, _, _, rfl, rfl, .inl ⟨by decide, by decide⟩, _, _, rfl, rfl, _, _, rfl, rfl, _, rfl, _, _, rfl, rfl, (by show (0 : Int) < 2305843009213693951; decide), ?_⟩
    refine ⟨_, rfl, ?_⟩
    refine ⟨6, rfl, by decide, by decide, for_range (n := 6) (fun _ σ' H' => H' = H3 ∧ ∃ (st mx : Int) (sp : Option V), 0 ≤ st ∧ st < 2305843009213693951 ∧ σ' = [some (.ref p), some (.int i), some (.int z), some (.int 2305843009213693951), some (.int st), some (.int mx), sp]) ?_ ?_ ?_⟩
    · obtain ⟨h0, h1⟩ := fresh_bound (z * 48271 + 40692 * i + 31) _ rfl
      exact ⟨rfl, _, _, _, h0, h1, rfl⟩
    · rintro j σ' H' hj ⟨rfl, st, mx, sp, h0, h1, rfl⟩
      refine ⟨_, rfl, _, rfl, _, _, rfl, rfl, .inl ⟨by omega, by omega⟩, _, rfl, _, _, rfl, rfl, _, _, rfl, rfl, .inl ⟨by decide, by decide⟩, _, rfl, _, _, rfl, rfl, _, _, rfl, rfl, .inl ⟨by omega, by omega⟩, _, _, rfl, rfl, _, rfl, _, _, rfl, rfl, _, rfl, _, _, rfl, rfl, (by show (0 : Int) < 2305843009213693951; decide), ?_⟩
      refine ⟨_, rfl, _, rfl, _, _, rfl, rfl, .inr ⟨by decide, by decide⟩, _, rfl, _, _, rfl, rfl, ?_⟩
      obtain ⟨h2, h3⟩ := fresh_bound (st * st + 69621 * (0 + (j : Int) + 1) * (i + 1) + z) _ rfl
      exact ⟨rfl, _, _, _, h2, h3, rfl⟩
    · rintro σ' H' ⟨rfl, st, mx, sp, h0, h1, rfl⟩
      exact ⟨_, rfl, fin _⟩

def sp_law_draw (K : PySem.W.Frag) : Sp := fun vs H Q _ => ∃ (p : Addr) (b : Int), vs = [.ref p, .int b] ∧ Pen K H p ∧ 0 < b ∧ b.natAbs < 2 ^ 300 ∧ ∀ (H' : Hp) (r : Int), Dr p H H' → 0 ≤ r → r < b → Q (.int r) H'

abbrev s_law_draw : Stmt := top 16
theorem sc_law_draw : FnScope ["pen", "many", "digit"] ["pen", "many"] (defScope s_law_draw) := ⟨rfl, rfl, rfl, by decide +kernel, rfl, by decide +kernel, by decide +kernel⟩
theorem ok_law_draw {f : Addr} {fd : FuncData} (F : Fun K "_law_draw" "_law_draw" s_law_draw f fd) (c__law_fresh : Cal P w K mg base "_law_fresh" 1 ["pen"] (sp_law_fresh K)) : FnG P w K mg base CX0 2 f fd ["pen", "many"] (sp_law_draw K) := by
  obtain ⟨f__law_fresh, fd__law_fresh, G__law_fresh, m__law_fresh, k__law_fresh, b__law_fresh⟩ := c__law_fresh.ex
  refine okG F sc_law_draw (fun vs H Q E h => ?_) (fun cdv A o s H vs Q E hr h => ?_)
  · obtain ⟨a, b, rfl, _⟩ := h
    rfl
  obtain ⟨p, b, rfl, hPen, hb, hb2, q⟩ := h
  refine ⟨_, (Evl.pss_cut (ps_if (pt_cmpR op_lt (pe_ix ix_list (pv 0) pe_int (fun _ _ => rfl)) (pv 1) (nomark _)) (pss_one (ps_asg (ge_call G__law_fresh (hr.mono (by first | decide | omega)) (by rfl) m__law_fresh k__law_fresh b__law_fresh .nil pass0 (pa_cons (pv 0) pa_nil)) (pg_sub (pv 0) pe_int set_list))) pss_nil)
      (pss_cons (ps_set (i := 2) sc_law_draw.nd rfl (Or.inl rfl) (pe_op op_mod (pe_ix ix_list (pv 0) pe_int (fun _ _ => rfl)) (pv 1)))
      (pss_cons (ps_asg (pe_op op_fdivW (pe_ix ix_list (pv 0) pe_int (fun _ _ => rfl)) (pv 1)) (pg_sub (pv 0) pe_int set_list))
      (pss_one (ps_ret (pv 2)))))), ?_⟩
  refine ⟨fun σ H2 => σ = [some (.ref p), some (.int b), none] ∧ Dr p H H2, ?_, ?_⟩
  · obtain ⟨c, ns, i, m, hP, hC, ne⟩ := id hPen
    refine ⟨_, rfl, p, _, 2, _, rfl, rfl, SqL.of hP, rfl, _, rfl, _, _, rfl, rfl, _, rfl, ?_⟩
    refine ite2 (fun _ => ?_) (fun _ => ⟨rfl, .refl _ _⟩)
    refine ⟨_, rfl, p, rfl, hPen, fun H' r k1 => ?_⟩
    obtain ⟨c', ns', i', m', P2⟩ := k1.pen hPen
    refine ⟨_, rfl, p, _, 2, 2, rfl, rfl, P2.1, rfl, rfl, k1.trans (.put .upd P2 (P2.put i' r).1)⟩
  · rintro _ H2 ⟨rfl, b1⟩
    obtain ⟨c, ns, i, m, P2⟩ := b1.pen hPen
    refine ⟨_, rfl, p, _, 2, _, rfl, rfl, SqL.of P2.1, rfl, _, rfl, _, _, rfl, rfl, hb, ?_⟩
    refine ⟨_, rfl, p, _, 2, _, rfl, rfl, SqL.of P2.1, rfl, _, rfl, _, _, rfl, rfl, wide_div hb hb2 (by decide) (by decide), ?_⟩
    refine ⟨_, rfl, p, _, 2, 2, rfl, rfl, P2.1, rfl, ?_⟩
    exact ⟨_, rfl, q _ _ (b1.trans (.put .upd P2 (P2.put i _).1)) (Int.emod_nonneg _ (by omega)) (Int.emod_lt_of_pos _ hb)⟩


def sp_law_modulus (K : PySem.W.Frag) : Sp := fun vs H Q _ => ∃ p : Addr, vs = [.ref p] ∧ Pen K H p ∧ ∀ (H' : Hp) (q : Int), Dr p H H' → 2 ≤ q → q ≤ 1000 → Q (.int q) H'
theorem at_mem {ns : List Int} {i : Int} (h0 : 0 ≤ i) (h : i < ns.length) : ∃ v ∈ ns, atI (ns.map V.int) i = some (.int v) := by
  have hk : i.toNat < ns.length := by omega
  have e : i = ((i.toNat : Nat) : Int) := by omega
  refine ⟨ns[i.toNat], List.getElem_mem hk, ?_⟩
  generalize hg : ns[i.toNat] = v
  rw [e]
  subst hg
  exact atI_nat (by rw [List.getElem?_map, List.getElem?_eq_getElem (by omega)]; rfl)

abbrev s_law_modulus : Stmt := top 17
theorem sc_law_modulus : FnScope ["pen"] ["pen"] (defScope s_law_modulus) := ⟨rfl, rfl, rfl, by decide +kernel, rfl, by decide +kernel, by decide +kernel⟩
theorem ok_law_modulus {f : Addr} {fd : FuncData} (F : Fun K "_law_modulus" "_law_modulus" s_law_modulus f fd) (c__law_draw : Cal P w K mg base "_law_draw" 2 ["pen", "many"] (sp_law_draw K)) : FnG P w K mg base CX0 3 f fd ["pen"] (sp_law_modulus K) := by
  obtain ⟨f__law_draw, fd__law_draw, G__law_draw, m__law_draw, k__law_draw, b__law_draw⟩ := c__law_draw.ex
  refine okG F sc_law_modulus (fun vs H Q E h => ?_) (fun cdv A o s H vs Q E hr h => ?_)
  · obtain ⟨p, rfl, _⟩ := h
    rfl
  obtain ⟨p, rfl, hP, q⟩ := h
  refine ⟨_, (pss_one (ps_ret (pe_ix ix_list (pe_lst (pa_cons pe_int (pa_cons pe_int (pa_cons pe_int (pa_cons pe_int (pa_cons pe_int (pa_cons pe_int (pa_cons pe_int (pa_cons pe_int (pa_cons pe_int (pa_cons (pe_op op_add pe_int (ge_call G__law_draw (hr.mono (by first | decide | omega)) (by rfl) m__law_draw k__law_draw b__law_draw .nil pass0 (pa_cons (pv 0) (pa_cons pe_int pa_nil)))) (pa_cons (pe_op op_add pe_int (ge_call G__law_draw (hr.mono (by first | decide | omega)) (by rfl) m__law_draw k__law_draw b__law_draw .nil pass0 (pa_cons (pv 0) (pa_cons pe_int pa_nil)))) pa_nil)))))))))))) (ge_call G__law_draw (hr.mono (by first | decide | omega)) (by rfl) m__law_draw k__law_draw b__law_draw .nil pass0 (pa_cons (pv 0) (pa_cons pe_int pa_nil))) (fun _ _ => rfl)))), ?_⟩
  refine ⟨_, rfl, p, 30, rfl, hP, by decide, by decide, fun H1 r b1 r0 r1 => ?_⟩
  have P1 := b1.pen hP
  refine ⟨_, _, rfl, rfl, _, rfl, p, 999, rfl, P1, by decide, by decide, fun H1b r' b1' r0' r1' => ?_⟩
  have P1b := b1'.pen P1
  refine ⟨_, _, rfl, rfl, (by show 11 ≤ sizeLine; decide), fun l hl => ?_⟩
  have P2 := P1b.new hl (.lst (([2, 3, 4, 5, 6, 7, 12, 97, 1000, 2 + r, 2 + r'] : List Int).map V.int))
  refine ⟨_, rfl, p, 11, rfl, P2, by decide, by decide, fun H2 k b2 k0 k1 => ?_⟩
  obtain ⟨v, hv, e⟩ := at_mem (ns := [2, 3, 4, 5, 6, 7, 12, 97, 1000, 2 + r, 2 + r']) k0 k1
  refine ⟨l, _, _, _, rfl, rfl, SqL.of (b2.but _ _ (P1b.free hl) upd_same), e, ?_⟩
  have hb : 2 ≤ v ∧ v ≤ 1000 := by
    simp only [List.mem_cons, List.not_mem_nil, or_false] at hv
    omega
  exact q H2 v (b1.trans (b1'.trans ((Dr.new hl _).trans b2))) hb.1 hb.2

end
end Vk06

namespace Vk06
open PySem PySem.Spec PyProof.Rows L2 Vx
section
variable {P : Program} {w : World} {K : PySem.W.Frag} {mg : Str → Option Value} {base : Heap}
def sp_law_leaf (K : PySem.W.Frag) : Sp := fun vs H Q _ => ∃ (p : Addr) (q : Int), vs = [.ref p, .int q] ∧ Pen K H p ∧ 2 ≤ q ∧ q ≤ 1000 ∧ ∀ (v : V) (F : Fml) (H' : Hp), Dr p H H' → Dp K H' v F.d → F.dep = 0 → F.lvs = 1 → F.ok → F.lok q → Q v H'

abbrev s_law_leaf : Stmt := top 18
theorem sc_law_leaf : FnScope ["pen", "q", "option"] ["pen", "q"] (defScope s_law_leaf) := ⟨rfl, rfl, rfl, by decide +kernel, rfl, by decide +kernel, by decide +kernel⟩
theorem ok_law_leaf {f : Addr} {fd : FuncData} (F : Fun K "_law_leaf" "_law_leaf" s_law_leaf f fd) (c__law_draw : Cal P w K mg base "_law_draw" 2 ["pen", "many"] (sp_law_draw K)) : FnG P w K mg base CX0 3 f fd ["pen", "q"] (sp_law_leaf K) := by
  obtain ⟨f__law_draw, fd__law_draw, G__law_draw, m__law_draw, k__law_draw, b__law_draw⟩ := c__law_draw.ex
  refine okG F sc_law_leaf (fun vs H Q E h => ?_) (fun cdv A' o s H vs Q E hr h => ?_)
  · obtain ⟨p, q, rfl, _⟩ := h
    rfl
  obtain ⟨p, q, rfl, hP, hq, hq2, done⟩ := h
  refine ⟨_, (pss_cons (ps_set (i := 2) sc_law_leaf.nd rfl (Or.inl rfl) (ge_call G__law_draw (hr.mono (by first | decide | omega)) (by rfl) m__law_draw k__law_draw b__law_draw .nil pass0 (pa_cons (pv 0) (pa_cons pe_int pa_nil))))
      (pss_cons (ps_if (pt_cmpR op_lt (pv 2) pe_int (nomark _)) (pss_one (ps_ret (pe_ix ix_list (pe_lst (pa_cons pe_str (pa_cons pe_str (pa_cons pe_str (pa_cons pe_str (pa_cons pe_str pa_nil)))))) (pv 2) (fun _ _ => rfl)))) pss_nil)
      (pss_cons (ps_if (pt_cmpR op_eq (pv 2) pe_int (nomark _)) (pss_one (ps_ret (pe_ix ix_list (pe_lst (pa_cons pe_str (pa_cons pe_str (pa_cons pe_str (pa_cons pe_str pa_nil))))) (ge_call G__law_draw (hr.mono (by first | decide | omega)) (by rfl) m__law_draw k__law_draw b__law_draw .nil pass0 (pa_cons (pv 0) (pa_cons pe_int pa_nil))) (fun _ _ => rfl)))) pss_nil)
      (pss_cons (ps_if (pt_cmpR op_eq (pv 2) pe_int (nomark _)) (pss_one (ps_ret (pe_ix ix_str pe_str (ge_call G__law_draw (hr.mono (by first | decide | omega)) (by rfl) m__law_draw k__law_draw b__law_draw .nil pass0 (pa_cons (pv 0) (pa_cons pe_int pa_nil))) (fun _ _ => rfl)))) pss_nil)
      (pss_one (ps_ret (pe_ix ix_list (pe_lst (pa_cons pe_int (pa_cons pe_int (pa_cons (ge_call G__law_draw (hr.mono (by first | decide | omega)) (by rfl) m__law_draw k__law_draw b__law_draw .nil pass0 (pa_cons (pv 0) (pa_cons (pv 1) pa_nil))) pa_nil)))) (pe_op op_sub (pv 2) pe_int) (fun _ _ => rfl)))))))), ?_⟩
  refine ⟨_, rfl, p, 10, rfl, hP, by decide, by decide, fun H1 z d1 z0 z1 => ?_⟩
  have P1 := d1.pen hP
  have var : ∀ (x : Str) (H' : Hp), nameB x = true → Dr p H H' → Q (.str x) H' := fun x H' hx d => done (.str x) (.var x) H' d (dpvar K H' x) rfl rfl trivial hx
  refine ⟨_, rfl, _, _, rfl, rfl, _, rfl, ?_⟩
  refine ite2 (fun c => ?_) (fun c => ?_)
  · have c : z < 5 := of_decide_eq_true c
    refine ⟨(by show 5 ≤ sizeLine; decide), fun l hl => ?_⟩
    obtain ⟨v, hv, e⟩ := at_memV (xs := [.str "x", .str "xa", .str "xb", .str "abcdef", .str "x"]) (i := z) z0 (by show z < 5; omega)
    refine ⟨_, rfl, l, _, _, _, rfl, rfl, SqL.of upd_same, e, ?_⟩
    simp only [List.mem_cons, List.not_mem_nil, or_false] at hv
    have dd := d1.trans (.new hl (.lst [.str "x", .str "xa", .str "xb", .str "abcdef", .str "x"]))
    rcases hv with rfl | rfl | rfl | rfl | rfl <;> exact var _ _ (by decide +kernel) dd
  have c : ¬ z < 5 := fun w => c (decide_eq_true w)
  refine ⟨_, rfl, rfl, _, rfl, ?_⟩
  refine ite2 (fun c2 => ?_) (fun c2 => ?_)
  · refine ⟨(by show 4 ≤ sizeLine; decide), fun l hl => ?_⟩
    have P2 := P1.new hl (.lst [.str "abcdeg", .str "plus", .str "not", .str "or"])
    refine ⟨_, rfl, p, 4, rfl, P2, by decide, by decide, fun H2 y d2 y0 y1 => ?_⟩
    obtain ⟨v, hv, e⟩ := at_memV (xs := [.str "abcdeg", .str "plus", .str "not", .str "or"]) (i := y) y0 (by show y < 4; omega)
    refine ⟨l, _, _, _, rfl, rfl, SqL.of (d2.but _ _ (P1.free hl) upd_same), e, ?_⟩
    simp only [List.mem_cons, List.not_mem_nil, or_false] at hv
    have dd := d1.trans ((Dr.new hl (.lst [.str "abcdeg", .str "plus", .str "not", .str "or"])).trans d2)
    rcases hv with rfl | rfl | rfl | rfl <;> exact var _ _ (by decide +kernel) dd
  have c2 : ¬ z = 5 := fun w => c2 (decide_eq_true (congrArg V.int w))
  refine ⟨_, rfl, rfl, _, rfl, ?_⟩
  refine ite2 (fun c3 => ?_) (fun c3 => ?_)
  · refine ⟨_, rfl, p, 22, rfl, P1, by decide, by decide, fun H2 y d2 y0 y1 => ?_⟩
    have all : ∀ i : Nat, i < 22 → ∃ k : Nat, (Str.ofString "abcdefghijklopqrstuvxy").cps.toList[i]? = some k ∧ nameB ⟨#[k]⟩ = true := by
      intro i hi
      have hh : ((List.range 22).all fun i => match (Str.ofString "abcdefghijklopqrstuvxy").cps.toList[i]? with | some k => nameB ⟨#[k]⟩ | none => false) = true := by decide +kernel
      have h2 := List.all_eq_true.mp hh i (List.mem_range.mpr hi)
      split at h2
      · rename_i k e
        exact ⟨k, e, h2⟩
      · cases h2
    obtain ⟨k, ek, hk⟩ := all y.toNat (by omega)
    have ey : y = ((y.toNat : Nat) : Int) := by omega
    refine ⟨_, _, k, rfl, rfl, (by decide +kernel), ?_, ?_⟩
    · rw [ey]; exact atI_nat ek
    · exact var _ _ hk (d1.trans d2)
  have c3 : ¬ z = 6 := fun w => c3 (decide_eq_true (congrArg V.int w))
  refine ⟨_, rfl, _, rfl, p, q, rfl, P1, by omega, by omega, fun H2 y d2 y0 y1 => ?_⟩
  refine ⟨(by show 3 ≤ sizeLine; decide), fun l hl => ?_⟩
  obtain ⟨v, hv, e⟩ := at_memV (xs := [.int 0, .int 1, .int y]) (i := z - 7) (by omega) (by show z - 7 < 3; omega)
  refine ⟨_, rfl, _, _, rfl, rfl, l, _, _, _, rfl, rfl, SqL.of upd_same, e, ?_⟩
  simp only [List.mem_cons, List.not_mem_nil, or_false] at hv
  have dd := d1.trans (d2.trans (.new hl (.lst [.int 0, .int 1, .int y])))
  rcases hv with rfl | rfl | rfl
  · exact done _ (.num 0) _ dd (dpnum K _ 0) rfl rfl trivial ⟨by omega, by omega⟩
  · exact done _ (.num 1) _ dd (dpnum K _ 1) rfl rfl trivial ⟨by omega, by omega⟩
  · exact done _ (.num y) _ dd (dpnum K _ y) rfl rfl trivial ⟨by omega, by omega⟩

/-- what a drawn formula is: its shape, the counter behind it -/
structure Drw (K : PySem.W.Frag) (p t : Addr) (q : Int) (n k : Nat) (H H' : Hp) (v : V) : Prop where
  ex : ∃ (F : Fml) (k' : Nat), Dn p t H H' ∧ H' t = some (.lst [.int (k' : Int)]) ∧ Dp K H' v F.d ∧ F.ok ∧ F.lok q ∧ F.lvs ≤ n ∧ F.dep + k' + 1 ≤ n + k ∧ k' ≤ k ∧ F.tps + k' + 1 ≤ n + k
def sp_law_formula (K : PySem.W.Frag) (d : Nat) : Sp := fun vs H Q _ => ∃ (p t : Addr) (q : Int) (n k : Nat), vs = [.ref p, .int q, .int (n : Int), .ref t] ∧ Pen K H p ∧ H t = some (.lst [.int (k : Int)]) ∧ 2 ≤ q ∧ q ≤ 1000 ∧ 0 < n ∧ n < d ∧ n ≤ 100 ∧ ∀ v H', Drw K p t q n k H H' v → Q v H'

abbrev s_law_formula : Stmt := top 19
theorem sc_law_formula : FnScope ["pen", "q", "leaves", "nots", "found", "left", "word"] ["pen", "q", "leaves", "nots"] (defScope s_law_formula) := ⟨rfl, rfl, rfl, by decide +kernel, rfl, by decide +kernel, by decide +kernel⟩
theorem ok_law_formula {f : Addr} {fd : FuncData} (F : Fun K "_law_formula" "_law_formula" s_law_formula f fd) (c__law_leaf : Cal P w K mg base "_law_leaf" 3 ["pen", "q"] (sp_law_leaf K)) (c__law_draw : Cal P w K mg base "_law_draw" 2 ["pen", "many"] (sp_law_draw K)) (m__law_formula : mg "_law_formula" = some (.ref f)) (k__law_formula : PySem.W.keepIn K (.ref f) = true) (b__law_formula : Binds K fd ["pen", "q", "leaves", "nots"] []) : ∀ d : Nat, FnG P w K mg base CX0 (4 + d) f fd ["pen", "q", "leaves", "nots"] (sp_law_formula K d) := by
  obtain ⟨f__law_leaf, fd__law_leaf, G__law_leaf, m__law_leaf, k__law_leaf, b__law_leaf⟩ := c__law_leaf.ex
  obtain ⟨f__law_draw, fd__law_draw, G__law_draw, m__law_draw, k__law_draw, b__law_draw⟩ := c__law_draw.ex
  intro d
  induction d with
  | zero => exact okG (k := 3) F sc_law_formula (fun vs H Q E ⟨p, t, q, n, k, e, _⟩ => e ▸ rfl) (fun cdv A' o s H vs Q E hr ⟨p, t, q, n, k, e, _, _, _, _, _, hd, _⟩ => absurd hd (Nat.not_lt_zero _))
  | succ d G__law_formula =>
    refine okG (k := 4 + d) F sc_law_formula (fun vs H Q E h => ?_) (fun cdv A' o s H vs Q E hr h => ?_)
    · obtain ⟨p, t, q, n, k, rfl, _⟩ := h
      rfl
    obtain ⟨p, t, q, n, k, rfl, hP, eT, hq, hq2, hn, hd, hn2, done⟩ := h
    have ntp : t ≠ p := pen_ne hP eT
    refine ⟨_, (pss_cons (ps_set (i := 4) sc_law_formula.nd rfl (Or.inl rfl) pe_non)
      (Evl.pss_cut (ps_if (PW.pt (pw_or (pt_cmpR op_lt (pv 2) pe_int (nomark _)) (pw_or1 (pt_cmpR op_eq (ge_call G__law_draw (hr.mono (by first | decide | omega)) (by rfl) m__law_draw k__law_draw b__law_draw .nil pass0 (pa_cons (pv 0) (pa_cons pe_int pa_nil))) pe_int (nomark _))))) (pss_one (ps_set (i := 4) sc_law_formula.nd rfl (Or.inl rfl) (ge_call G__law_leaf (hr.mono (by first | decide | omega)) (by rfl) m__law_leaf k__law_leaf b__law_leaf .nil pass0 (pa_cons (pv 0) (pa_cons (pv 1) pa_nil))))) (pss_cons (ps_set (i := 5) sc_law_formula.nd rfl (Or.inl rfl) (pe_op op_add pe_int (ge_call G__law_draw (hr.mono (by first | decide | omega)) (by rfl) m__law_draw k__law_draw b__law_draw .nil pass0 (pa_cons (pv 0) (pa_cons (pe_op op_sub (pv 2) pe_int) pa_nil)))))
      (pss_cons (ps_set (i := 6) sc_law_formula.nd rfl (Or.inl rfl) (pe_ix ix_list (pe_lst (pa_cons pe_str (pa_cons pe_str (pa_cons pe_str (pa_cons pe_str (pa_cons pe_str (pa_cons pe_str pa_nil))))))) (ge_call G__law_draw (hr.mono (by first | decide | omega)) (by rfl) m__law_draw k__law_draw b__law_draw .nil pass0 (pa_cons (pv 0) (pa_cons pe_int pa_nil))) (fun _ _ => rfl)))
      (pss_one (ps_set (i := 4) sc_law_formula.nd rfl (Or.inl rfl) (pe_tup (pa_cons (pv 6) (pa_cons (ge_call G__law_formula (hr.mono (by first | decide | omega)) (by rfl) m__law_formula k__law_formula b__law_formula .nil pass0 (pa_cons (pv 0) (pa_cons (pv 1) (pa_cons (pv 5) (pa_cons (pv 3) pa_nil))))) (pa_cons (ge_call G__law_formula (hr.mono (by first | decide | omega)) (by rfl) m__law_formula k__law_formula b__law_formula .nil pass0 (pa_cons (pv 0) (pa_cons (pv 1) (pa_cons (pe_op op_sub (pv 2) (pv 5)) (pa_cons (pv 3) pa_nil))))) pa_nil)))))))))
      (Evl.pss_cut (ps_if (PW.pt (pw_and (pt_cmpR op_gt (pe_ix ix_list (pv 3) pe_int (fun _ _ => rfl)) pe_int (nomark _)) (pw_and1 (pt_cmpR op_eq (ge_call G__law_draw (hr.mono (by first | decide | omega)) (by rfl) m__law_draw k__law_draw b__law_draw .nil pass0 (pa_cons (pv 0) (pa_cons pe_int pa_nil))) pe_int (nomark _))))) (pss_cons (ps_asg (pe_op op_sub (pe_ix ix_list (pv 3) pe_int (fun _ _ => rfl)) pe_int) (pg_sub (pv 3) pe_int set_list))
      (pss_one (ps_set (i := 4) sc_law_formula.nd rfl (Or.inl rfl) (pe_tup (pa_cons pe_str (pa_cons (pv 4) pa_nil)))))) pss_nil)
      (pss_one (ps_ret (pv 4)))))), ?_⟩
    have leaf : ∀ (σ : L2.St) (H1 : Hp) (Q1 : VK), Dr p H H1 → (∀ v H', Drw K p t q n k H H' v → Q1 v H') → ∀ (v : V) (F : Fml) (H' : Hp), Dr p H1 H' → Dp K H' v F.d → F.dep = 0 → F.lvs = 1 → F.ok → F.lok q → Q1 v H' := by
      intro σ H1 Q1 d1 k1 v F H' d2 hF f1 f2 f3 f4
      have dd := d1.trans d2
      exact k1 v H' ⟨F, k, .dr dd, dd.but _ _ ntp eT, hF, f3, f4, by omega, by omega, Nat.le_refl _, by have := tps_zero f1; omega⟩
    refine ⟨fun σ' H' => ∃ v x5 x6, Drw K p t q n k H H' v ∧ σ' = [some (.ref p), some (.int q), some (.int (n : Int)), some (.ref t), some v, x5, x6], ?_, ?_⟩
    · refine ⟨_, rfl, _, _, rfl, rfl, _, rfl, ?_⟩
      refine ite2 (fun c => ?_) (fun c => ?_)
      · exact ⟨_, rfl, _, rfl, p, q, rfl, hP, hq, hq2, leaf [] H (fun v H' => ∃ v' x5 x6, Drw K p t q n k H H' v' ∧ _ = _) (.refl _ _) (fun v H' r => ⟨v, _, _, r, rfl⟩)⟩
      have c : ¬ (n : Int) < 2 := fun w => c (decide_eq_true w)
      refine ⟨_, rfl, p, 7, rfl, hP, by decide, by decide, fun H1 z d1 z0 z1 => ?_⟩
      have P1 := d1.pen hP
      refine ⟨rfl, _, rfl, ?_⟩
      refine ite2 (fun c2 => ?_) (fun c2 => ?_)
      · exact ⟨_, rfl, _, rfl, p, q, rfl, P1, hq, hq2, leaf [] H1 (fun v H' => ∃ v' x5 x6, Drw K p t q n k H H' v' ∧ _ = _) d1 (fun v H' r => ⟨v, _, _, r, rfl⟩)⟩
      refine ⟨_, rfl, _, rfl, _, _, rfl, rfl, p, (n : Int) - 1, rfl, P1, by omega, ?_, fun H2 r d2 r0 r1 => ?_⟩
      · have : ((n : Int) - 1).natAbs < 1000 := by omega
        exact Nat.lt_trans this (by decide)
      have P2 := d2.pen P1
      obtain ⟨m, hm⟩ : ∃ m : Nat, 1 + r = (m : Int) := ⟨(1 + r).toNat, by omega⟩
      refine ⟨_, _, rfl, rfl, (by show 6 ≤ sizeLine; decide), fun l hl => ?_⟩
      have P3 := P2.new hl (.lst [.str "plus", .str "minus", .str "times", .str "and", .str "or", .str "times"])
      refine ⟨_, rfl, p, 6, rfl, P3, by decide, by decide, fun H3 y d3 y0 y1 => ?_⟩
      have P4 := d3.pen P3
      obtain ⟨wv, hw, ew⟩ := at_memV (xs := [.str "plus", .str "minus", .str "times", .str "and", .str "or", .str "times"]) (i := y) y0 (by show y < 6; omega)
      obtain ⟨w', rfl, nw⟩ : ∃ w' : Str, wv = .str w' ∧ Fml.isW w' := by
        simp only [List.mem_cons, List.not_mem_nil, or_false] at hw
        rcases hw with rfl | rfl | rfl | rfl | rfl | rfl
        · exact ⟨_, rfl, .inl rfl⟩
        · exact ⟨_, rfl, .inr (.inl rfl)⟩
        · exact ⟨_, rfl, .inr (.inr (.inl rfl))⟩
        · exact ⟨_, rfl, .inr (.inr (.inr (.inl rfl)))⟩
        · exact ⟨_, rfl, .inr (.inr (.inr (.inr rfl)))⟩
        · exact ⟨_, rfl, .inr (.inr (.inl rfl))⟩
      refine ⟨l, _, _, _, rfl, rfl, SqL.of (d3.but _ _ (P2.free hl) upd_same), ew, ?_⟩
      have dd : Dr p H H3 := d1.trans (d2.trans ((Dr.new hl _).trans d3))
      have eT3 := dd.but _ _ ntp eT
      refine ⟨_, rfl, _, rfl, _, rfl, _, rfl, _, rfl, p, t, q, m, k, (by show [V.ref p, V.int q, V.int (1 + r), V.ref t] = _; rw [hm]), P4, eT3, hq, hq2, by omega, by omega, by omega, fun v1 H4 r1 => ?_⟩
      obtain ⟨F1, k1, n1, e1, hF1, ok1, lok1, lv1, dep1, kk1⟩ := r1.ex
      have P5 := P4.dn n1 eT3 e1
      refine ⟨_, rfl, _, rfl, _, rfl, _, rfl, _, _, rfl, rfl, _, rfl, p, t, q, n - m, k1, (by show [V.ref p, V.int q, V.int ((n : Int) - (1 + r)), V.ref t] = _; rw [show (n : Int) - (1 + r) = ((n - m : Nat) : Int) by omega]), P5, e1, hq, hq2, by omega, by omega, by omega, fun v2 H5 r2 => ?_⟩
      obtain ⟨F2, k2, n2, e2, hF2, ok2, lok2, lv2, dep2, kk2⟩ := r2.ex
      refine ⟨(by show 3 ≤ sizeLine; decide), fun T hT => ?_⟩
      have h1' := n2.data P5.chg (.inl ⟨_, e1⟩) F1.noL hF1
      obtain ⟨sT, hB⟩ := new_bin (w := w') hT h1' hF2
      refine ⟨.ref T, _, _, ⟨.bin w' F1 F2, k2, (Dn.dr dd).trans (n1.trans (n2.trans (.same sT))), sT _ _ e2, hB, ⟨nw, ok1, ok2⟩, ⟨lok1, lok2⟩, ?_, ?_, by omega, ?_⟩, rfl⟩
      · show F1.lvs + F2.lvs ≤ n
        omega
      · show max F1.dep F2.dep + 1 + k2 + 1 ≤ n + k
        omega
      · show F1.tps + F2.tps + 1 + k2 + 1 ≤ n + k
        omega
    rintro _ H1 ⟨v, x5, x6, ⟨F', k', nn, eT', hF, ok', lok', lv', dep', kk'⟩, rfl⟩
    have P1 := hP.dn nn eT eT'
    refine ⟨fun σ' H' => ∃ v, Drw K p t q n k H H' v ∧ σ' = [some (.ref p), some (.int q), some (.int (n : Int)), some (.ref t), some v, x5, x6], ?_, ?_⟩
    · refine ⟨_, rfl, t, _, 0, _, rfl, rfl, SqL.of eT', rfl, _, _, rfl, rfl, _, rfl, ?_⟩
      refine ite2 (fun c => ?_) (fun c => iteF ⟨v, ⟨F', k', nn, eT', hF, ok', lok', lv', dep', kk'⟩, rfl⟩)
      have c : (k' : Int) > 0 := of_decide_eq_true c
      refine ⟨_, rfl, p, 6, rfl, P1, by decide, by decide, fun H2 z d2 z0 z1 => ?_⟩
      have eT2 := d2.but _ _ ntp eT'
      have hF2 := dp_but P1.chg d2.but _ _ F'.noL hF
      have n2 := nn.trans (Dn.dr (t := t) d2)
      refine ⟨rfl, _, rfl, ?_⟩
      refine ite2 (fun c2 => ?_) (fun c2 => ⟨v, ⟨F', k', n2, eT2, hF2, ok', lok', lv', dep', kk'⟩, rfl⟩)
      refine ⟨_, rfl, t, _, 0, _, rfl, rfl, SqL.of eT2, rfl, _, _, rfl, rfl, _, rfl, t, _, 0, 0, rfl, rfl, eT2, rfl, ?_⟩
      have ek : V.int ((k' : Int) - 1) = V.int ((k' - 1 : Nat) : Int) := by rw [show (k' : Int) - 1 = ((k' - 1 : Nat) : Int) by omega]
      refine ⟨_, rfl, (by show 2 ≤ sizeLine; decide), fun T hT => ?_⟩
      have n3 : Dn p t H2 (upd H2 t (.lst [.int ((k' : Int) - 1)])) := .put ntp
      have hF3 := n3.data (d2.pen P1).chg (.inl ⟨_, eT2⟩) F'.noL hF2
      obtain ⟨sT, hN⟩ := new_neg hT hF3
      refine ⟨.ref T, ⟨.neg F', k' - 1, n2.trans (n3.trans (.same sT)), ?_, hN, ok', lok', lv', ?_, by omega, ?_⟩, rfl⟩
      · rw [sT _ _ upd_same]; exact congrArg (fun z => some (HO.lst [z])) ek
      · show F'.dep + 1 + (k' - 1) + 1 ≤ n + k
        omega
      · show F'.tps + 1 + (k' - 1) + 1 ≤ n + k
        omega
    rintro _ H2 ⟨v', hD, rfl⟩
    exact ⟨_, rfl, done v' H2 hD⟩

def sp_law_some_formula (K : PySem.W.Frag) : Sp := fun vs H Q _ => ∃ (p : Addr) (q : Int) (n : Nat), vs = [.ref p, .int q, .int (n : Int)] ∧ Pen K H p ∧ 2 ≤ q ∧ q ≤ 1000 ∧ 0 < n ∧ n ≤ 8 ∧ ∀ (v : V) (F : Fml) (H' : Hp), Dr p H H' → Dp K H' v F.d → F.ok → F.lok q → F.lvs ≤ n → F.dep ≤ n + 3 ∧ F.tps ≤ n + 3 → Q v H'

abbrev s_law_some_formula : Stmt := top 20
theorem sc_law_some_formula : FnScope ["pen", "q", "leaves"] ["pen", "q", "leaves"] (defScope s_law_some_formula) := ⟨rfl, rfl, rfl, by decide +kernel, rfl, by decide +kernel, by decide +kernel⟩
theorem ok_law_some_formula {f : Addr} {fd : FuncData} (F : Fun K "_law_some_formula" "_law_some_formula" s_law_some_formula f fd) (c__law_formula : Cal P w K mg base "_law_formula" 13 ["pen", "q", "leaves", "nots"] (sp_law_formula K 9)) (c__law_draw : Cal P w K mg base "_law_draw" 2 ["pen", "many"] (sp_law_draw K)) : FnG P w K mg base CX0 14 f fd ["pen", "q", "leaves"] (sp_law_some_formula K) := by
  obtain ⟨f__law_formula, fd__law_formula, G__law_formula, m__law_formula, k__law_formula, b__law_formula⟩ := c__law_formula.ex
  obtain ⟨f__law_draw, fd__law_draw, G__law_draw, m__law_draw, k__law_draw, b__law_draw⟩ := c__law_draw.ex
  refine okG F sc_law_some_formula (fun vs H Q E h => ?_) (fun cdv A' o s H vs Q E hr h => ?_)
  · obtain ⟨p, q, n, rfl, _⟩ := h
    rfl
  obtain ⟨p, q, n, rfl, hP, hq, hq2, hn, hn2, done⟩ := h
  refine ⟨_, (pss_one (ps_ret (ge_call G__law_formula (hr.mono (by first | decide | omega)) (by rfl) m__law_formula k__law_formula b__law_formula .nil pass0 (pa_cons (pv 0) (pa_cons (pv 1) (pa_cons (pe_op op_add pe_int (ge_call G__law_draw (hr.mono (by first | decide | omega)) (by rfl) m__law_draw k__law_draw b__law_draw .nil pass0 (pa_cons (pv 0) (pa_cons (pv 2) pa_nil)))) (pa_cons (pe_lst (pa_cons pe_int pa_nil)) pa_nil))))))), ?_⟩
  refine ⟨_, rfl, _, rfl, _, rfl, _, rfl, p, n, rfl, hP, by omega, ?_, fun H1 r d1 r0 r1 => ?_⟩
  · have : ((n : Int)).natAbs < 1000 := by omega
    exact Nat.lt_trans this (by decide)
  have P1 := d1.pen hP
  obtain ⟨m, hm⟩ : ∃ m : Nat, 1 + r = (m : Int) := ⟨(1 + r).toNat, by omega⟩
  refine ⟨_, _, rfl, rfl, (by show 1 ≤ sizeLine; decide), fun t ht => ?_⟩
  have P2 := P1.new ht (.lst [V.int 4])
  refine ⟨p, t, q, m, 4, (by show [V.ref p, V.int q, V.int (1 + r), V.ref t] = _; rw [hm]), P2, upd_same, hq, hq2, by omega, by omega, by omega, fun v H2 hD => ?_⟩
  obtain ⟨F', k', nn, eT', hF, ok', lok', lv', dep', kk'⟩ := hD.ex
  have dr2 : Dr p H1 H2 := by
    have s := same_new ht (.lst [V.int 4])
    refine ⟨fun b o nb hb => nn.but b o nb (ne_of_none hb ht) (s b o hb), fun c i m' hc => ?_⟩
    exact nn.pen c i m' (s _ _ hc)
  exact done v F' H2 (d1.trans dr2) hF ok' lok' (by omega) (by omega)

end
end Vk06

namespace Vk06
open PySem PySem.Spec PyProof.Rows L2 Vx
section
variable {P : Program} {w : World} {K : PySem.W.Frag} {mg : Str → Option Value} {base : Heap}
theorem le_sign (c : Nat) : (!decide ((⟨#[c]⟩ : Str).cps.toList < ("a" : Str).cps.toList)) = decide (97 ≤ c) ∧ (!decide (("z" : Str).cps.toList < (⟨#[c]⟩ : Str).cps.toList)) = decide (c ≤ 122) := by
  have e1 : ("a" : Str).cps.toList = [97] := by decide +kernel
  have e2 : ("z" : Str).cps.toList = [122] := by decide +kernel
  have lt1 : ∀ a b : Nat, ([a] : List Nat) < [b] ↔ a < b := fun a b => by
    constructor
    · intro h
      cases h with
      | rel h => exact h
      | cons h => cases h
    · exact fun h => List.Lex.rel h
  rw [e1, e2]
  show (!decide ([c] < [97])) = _ ∧ (!decide ([122] < [c])) = _
  constructor
  · rw [← decide_not]; exact decide_eq_decide.mpr (by rw [lt1]; omega)
  · rw [← decide_not]; exact decide_eq_decide.mpr (by rw [lt1]; omega)
theorem filter_take_succ {x : Str} {i c : Nat} (h : x.cps[i]? = some c) (f : Nat → Bool) : (x.cps.toList.take (i + 1)).filter f = (x.cps.toList.take i).filter f ++ (if f c = true then [c] else []) := by
  have e : x.cps.toList[i]? = some c := by rw [Array.getElem?_toList]; exact h
  rw [List.take_add_one, e, List.filter_append]
  congr 1
  show [c].filter f = _
  rw [List.filter_cons]
  split <;> rfl
def sp_law_is_leaf (K : PySem.W.Frag) : Sp := fun vs H Q _ => ∃ (v : V) (d : PyData) (q : Int) (p : Addr), vs = [v, .int q] ∧ Dx K p H v d ∧ d.bulk ≤ 100000 ∧ ∀ H', Same H H' → Q (.bl (Sx.isRes q (skD d) || Sx.isVar (skD d))) H'

abbrev s_law_is_leaf : Stmt := top 21
theorem sc_law_is_leaf : FnScope ["value", "q", "sign"] ["value", "q"] (defScope s_law_is_leaf) := ⟨rfl, rfl, rfl, by decide +kernel, rfl, by decide +kernel, by decide +kernel⟩
theorem ok_law_is_leaf {f : Addr} {fd : FuncData} (F : Fun K "_law_is_leaf" "_law_is_leaf" s_law_is_leaf f fd) (m_isinstance : mg "isinstance" = none) (m_str : mg "str" = none) (m_int : mg "int" = none) (m_bool : mg "bool" = none) (m_len : mg "len" = none) : FnG P w K mg base CX0 1 f fd ["value", "q"] (sp_law_is_leaf K) := by
  refine okG F sc_law_is_leaf (fun vs H Q E h => ?_) (fun cdv A' o s H vs Q E hr h => ?_)
  · obtain ⟨v, d, q, p, rfl, _⟩ := h
    rfl
  obtain ⟨v, d, q, p, rfl, hv, hb, done⟩ := h
  refine ⟨_, (pss_cons (ps_if (pt_val (pe_callB call_isi (by rfl) m_isinstance (by decide +kernel) (pa_cons (pv 0) (pa_cons (pe_bltn (v := .ty "str") (by rfl) m_str (by decide +kernel) rfl) pa_nil)))) (pss_one (ps_ret (pe_and (pe_chain op_le op_le pe_int (pe_callB call_len_str (by rfl) m_len PySem.boot_len (pa_cons (pv 0) pa_nil)) pe_int) (pe_one (pe_cmpR (op_eqEL hr.r.units) (pe_lc (own := [("sign", 2)]) (g := (gName 2)) (by rfl) sc_law_is_leaf.nd (pi_str (pv 0)) (blkOk_by (own := [("sign", 2)]) (by kernel_rfl)) (fun _ _ _ _ _ => (pg_name (i := 2) sc_law_is_leaf.nd rfl (Or.inl rfl))) (fun _ _ _ _ _ => (pts_one (pt_not (pt_chain op_le_str op_le_str pe_str (pv 2) pe_str)))) (fun _ _ _ _ _ => (pv 2))) (pe_lst pa_nil) (nomark _)))))) pss_nil)
      (pss_one (ps_ret (pe_and (pe_callB call_isi (by rfl) m_isinstance (by decide +kernel) (pa_cons (pv 0) (pa_cons (pe_bltn (v := .ty "int") (by rfl) m_int (by decide +kernel) rfl) pa_nil))) (pe_and (pe_not (pe_callB call_isi (by rfl) m_isinstance (by decide +kernel) (pa_cons (pv 0) (pa_cons (pe_bltn (v := .ty "bool") (by rfl) m_bool (by decide +kernel) rfl) pa_nil)))) (pe_one (pe_chain op_le op_lt pe_int (pv 0) (pv 1)))))))), ?_⟩
  have sv := dx_sv d v hv hb
  revert sv done
  generalize skD d = a
  intro done sv
  obtain ⟨t, hx, kb⟩ := isi_s sv
  refine ⟨_, rfl, _, _, _, _, _, rfl, .ty _, hx, kb, _, rfl, ?_⟩
  have other : a.isS = false → ∃ t b c, TyX K H v t ∧ PySem.W.kitOne K t (.type "bool") = some b ∧ PySem.W.kitOne K t (.type "int") = some c ∧ (b || !c) = !a.isI := fun _ => isi_b sv
  cases a with
  | s x =>
    obtain ⟨rfl, hl⟩ := sv_s sv
    refine iteT ⟨_, rfl, _, rfl, Nat.le_trans hl (by decide), _, _, rfl, rfl, _, rfl, ?_⟩
    have e : x.length = x.cps.size := rfl
    have no : (¬ 1 ≤ x.cps.size ∨ ¬ x.cps.size ≤ 6) → Q (.bl false) H := fun c => by
      have := done H (Same.refl _)
      have z : (Sx.isRes q (.s x) || Sx.isVar (.s x)) = false := by
        show nameB x = false
        unfold nameB
        rcases c with c | c
        · rw [decide_eq_false (by omega), Bool.false_and, Bool.false_and]
        · rw [decide_eq_false c, Bool.and_false, Bool.false_and]
      rw [z] at this
      exact this
    by_cases l : 1 ≤ x.cps.size
    · refine if_true_of (decide_eq_true (by omega)) ⟨_, _, rfl, rfl, _, rfl, ?_⟩
      by_cases m : x.cps.size ≤ 6
      · refine if_true_of (decide_eq_true (by omega)) ?_
        refine ⟨_, rfl, x, rfl, fun D hD => lc_str (fun i H' => H' D = some (.lst (((x.cps.toList.take i).filter fun c => !(decide (97 ≤ c) && decide (c ≤ 122))).map fun c => V.str ⟨#[c]⟩)) ∧ Same H H') ⟨upd_same, same_new hD _⟩ ?_ ?_⟩
        · rintro i c H' hc ⟨eD, s1⟩
          have ft := filter_take_succ hc fun c => !(decide (97 ≤ c) && decide (c ≤ 122))
          refine ⟨rfl, _, rfl, _, _, rfl, rfl, _, rfl, ?_⟩
          rw [(le_sign c).1]
          by_cases c1 : 97 ≤ c
          · refine if_true_of (decide_eq_true c1) ⟨_, _, rfl, rfl, _, rfl, ?_⟩
            rw [(le_sign c).2]
            by_cases c2 : c ≤ 122
            · rw [decide_eq_true c2]
              refine iteF ⟨?_, s1⟩
              rw [ft, decide_eq_true c1, decide_eq_true c2, eD]
              simp
            · rw [decide_eq_false c2]
              refine iteT ⟨_, rfl, _, eD, ?_, ?_, same_mut s1 hD⟩
              · rw [List.length_map]
                refine Nat.lt_of_le_of_lt (Nat.le_trans (List.length_filter_le _ _) ?_) (show 6 < sizeLine by decide)
                rw [List.length_take, Array.length_toList]; omega
              · rw [upd_same, ft, decide_eq_true c1, decide_eq_false c2, List.map_append]
                rfl
          · refine if_false_of (decide_eq_false c1) ⟨_, rfl, ?_⟩
            refine iteT ⟨_, rfl, _, eD, ?_, ?_, same_mut s1 hD⟩
            · rw [List.length_map]
              refine Nat.lt_of_le_of_lt (Nat.le_trans (List.length_filter_le _ _) ?_) (show 6 < sizeLine by decide)
              rw [List.length_take, Array.length_toList]; omega
            · rw [upd_same, ft, decide_eq_false c1, List.map_append]
              rfl
        · rintro H' ⟨eD, s1⟩
          rw [List.take_of_length_le (by rw [Array.length_toList]; exact Nat.le_refl _)] at eD
          refine ⟨Nat.zero_le _, fun e0 he0 => ?_⟩
          have s2 := same_new he0 (.lst [])
          refine ⟨D, e0, _, rfl, rfl, SqL.of (s2 _ _ eD), SqL.of upd_same, ?_⟩
          have := done _ (s1.trans s2)
          have z : (Sx.isRes q (.s x) || Sx.isVar (.s x)) = ((x.cps.toList.filter fun c => !(decide (97 ≤ c) && decide (c ≤ 122))).map fun c => V.str ⟨#[c]⟩).isEmpty := by
            show nameB x = _
            unfold nameB
            rw [decide_eq_true m, decide_eq_true (by omega), Bool.eq_iff_iff]
            simp only [Bool.and_self, Bool.true_and, List.all_eq_true, List.isEmpty_iff, List.map_eq_nil_iff, List.filter_eq_nil_iff, Bool.not_eq_true', Bool.not_eq_false]
          rw [z] at this
          exact this
      · refine if_false_of (decide_eq_false (by omega)) ?_
        exact no (.inr m)
    · refine if_false_of (decide_eq_false (by omega)) ⟨_, rfl, ?_⟩
      exact iteF (no (.inl l))
  | i n =>
    obtain rfl := sv_i sv
    obtain ⟨t2, b, c, hx2, k1, k2, e⟩ := other rfl
    have e : (b || !c) = false := e
    obtain ⟨rfl, rfl⟩ : b = false ∧ c = true := by cases b <;> cases c <;> first | exact ⟨rfl, rfl⟩ | cases e
    refine iteF ⟨_, rfl, _, _, _, _, _, rfl, .ty _, hx2, k2, _, rfl, ?_⟩
    refine iteT ⟨_, rfl, _, _, _, _, _, rfl, .ty _, hx2, k1, _, rfl, ?_⟩
    refine ⟨_, rfl, ?_⟩
    refine iteT ⟨_, rfl, _, _, rfl, rfl, _, rfl, ?_⟩
    have := done H (Same.refl _)
    by_cases l : 0 ≤ n
    · refine if_true_of (decide_eq_true l) ⟨_, rfl, _, _, rfl, rfl, ?_⟩
      have z : (Sx.isRes q (.i n) || Sx.isVar (.i n)) = decide (n < q) := by
        show (decide (0 ≤ n) && decide (n < q) || false) = _
        rw [decide_eq_true l, Bool.true_and, Bool.or_false]
      rw [z] at this
      exact this
    · refine if_false_of (decide_eq_false l) ?_
      have z : (Sx.isRes q (.i n) || Sx.isVar (.i n)) = false := by
        show (decide (0 ≤ n) && decide (n < q) || false) = _
        rw [decide_eq_false l, Bool.false_and]; rfl
      rw [z] at this
      exact this
  | o =>
    obtain ⟨t2, b, c, hx2, k1, k2, e⟩ := other rfl
    have e : (b || !c) = true := e
    refine iteF ⟨_, rfl, _, _, _, _, _, rfl, .ty _, hx2, k2, _, rfl, ?_⟩
    cases c with
    | false => exact iteF (done H (Same.refl _))
    | true =>
      refine iteT ⟨_, rfl, _, _, _, _, _, rfl, .ty _, hx2, k1, ?_⟩
      obtain rfl : b = true := by cases b <;> first | rfl | cases e
      exact ⟨_, rfl, _, rfl, iteF (done H (Same.refl _))⟩
  | t xs =>
    obtain ⟨t2, b, c, hx2, k1, k2, e⟩ := other rfl
    have e : (b || !c) = true := e
    refine iteF ⟨_, rfl, _, _, _, _, _, rfl, .ty _, hx2, k2, _, rfl, ?_⟩
    cases c with
    | false => exact iteF (done H (Same.refl _))
    | true =>
      refine iteT ⟨_, rfl, _, _, _, _, _, rfl, .ty _, hx2, k1, ?_⟩
      obtain rfl : b = true := by cases b <;> first | rfl | cases e
      exact ⟨_, rfl, _, rfl, iteF (done H (Same.refl _))⟩

def sizesK : List (Key × V) := [(.inr "plus", .int 3), (.inr "minus", .int 3), (.inr "times", .int 3), (.inr "and", .int 3), (.inr "or", .int 3), (.inr "not", .int 2)]
theorem sizes_opc (w : Str) (n : Nat) : (!decide (V.int ((n : Int) + 1) = (valV sizesK (.inr w)).getD (.int 0))) = !decide (Sk.opc w = some n) := by
  unfold Sk.opc
  have three : (!decide (V.int ((n : Int) + 1) = V.int 3)) = !decide (some 2 = some n) := by
    by_cases c : n = 2
    · subst c; rfl
    · rw [decide_eq_false (fun z => c (by have := V.int.inj z; omega)), decide_eq_false (fun z => c (Option.some.inj z).symm)]
  have two : (!decide (V.int ((n : Int) + 1) = V.int 2)) = !decide (some 1 = some n) := by
    by_cases c : n = 1
    · subst c; rfl
    · rw [decide_eq_false (fun z => c (by have := V.int.inj z; omega)), decide_eq_false (fun z => c (Option.some.inj z).symm)]
  by_cases h1 : w = "plus"
  · subst h1; rw [if_pos rfl, show valV sizesK (.inr "plus") = some (.int 3) from val1]; exact three
  rw [if_neg h1]
  by_cases h2 : w = "minus"
  · subst h2; rw [if_pos rfl, show valV sizesK (.inr "minus") = some (.int 3) from valN (by decide +kernel) val1]; exact three
  rw [if_neg h2]
  by_cases h3 : w = "times"
  · subst h3; rw [if_pos rfl, show valV sizesK (.inr "times") = some (.int 3) from valN (by decide +kernel) (valN (by decide +kernel) val1)]; exact three
  rw [if_neg h3]
  by_cases h4 : w = "not"
  · subst h4; rw [if_pos rfl, show valV sizesK (.inr "not") = some (.int 2) from valN (by decide +kernel) (valN (by decide +kernel) (valN (by decide +kernel) (valN (by decide +kernel) (valN (by decide +kernel) val1))))]; exact two
  rw [if_neg h4]
  by_cases h5 : w = "and"
  · subst h5; rw [if_pos rfl, show valV sizesK (.inr "and") = some (.int 3) from valN (by decide +kernel) (valN (by decide +kernel) (valN (by decide +kernel) val1))]; exact three
  rw [if_neg h5]
  by_cases h6 : w = "or"
  · subst h6; rw [if_pos rfl, show valV sizesK (.inr "or") = some (.int 3) from valN (by decide +kernel) (valN (by decide +kernel) (valN (by decide +kernel) (valN (by decide +kernel) val1)))]; exact three
  rw [if_neg h6]
  have e : valV sizesK (.inr w) = none := by
    unfold sizesK
    rw [valV_neg (fun z => h1 (Sum.inr.inj z).symm), valV_neg (fun z => h2 (Sum.inr.inj z).symm), valV_neg (fun z => h3 (Sum.inr.inj z).symm), valV_neg (fun z => h5 (Sum.inr.inj z).symm), valV_neg (fun z => h6 (Sum.inr.inj z).symm), valV_neg (fun z => h4 (Sum.inr.inj z).symm)]
    rfl
  rw [e]
  show (!decide (V.int ((n : Int) + 1) = V.int 0)) = !decide (none = some n)
  rw [decide_eq_false (fun z => by have := V.int.inj z; omega), decide_eq_false (fun z => nomatch z)]
/-- None, or the path -/
def PathV (K : PySem.W.Frag) (H : Hp) : Option (List Int) → V → Prop
  | none, v => v = .non
  | some p, v => ∃ a, v = .ref a ∧ SqT K H a (p.map V.int)
theorem bad_leaf {q : Int} {a : Sk} (h : (Sx.isRes q a || Sx.isVar a) = true) (p : List Int) : Sk.bad q a p = none := by
  have b : Sk.built q a = true := by
    rw [Sx.built_eq]
    cases a with
    | t xs => cases h
    | s x => exact h
    | i n => exact h
    | o => exact h
  cases a with
  | t xs => cases h
  | s x => rw [Sk.bad, if_pos b]; intro x r h; cases h
  | i n => rw [Sk.bad, if_pos b]; intro x r h; cases h
  | o => rw [Sk.bad, if_pos b]; intro x r h; cases h
theorem bad_not {q : Int} {a : Sk} (h : Sk.built q a = false) (p : List Int) : Sk.bad q a p = some p := by
  have n : ¬ Sk.built q a = true := by rw [h]; exact Bool.false_ne_true
  cases a with
  | t xs =>
    cases xs with
    | nil => rw [Sk.bad, if_neg n]; intro x r h; cases h
    | cons x r => rw [Sk.bad, if_neg n]
  | s x => rw [Sk.bad, if_neg n]; intro x r h; cases h
  | i n' => rw [Sk.bad, if_neg n]; intro x r h; cases h
  | o => rw [Sk.bad, if_neg n]; intro x r h; cases h
theorem bads_drop {q : Int} {p : List Int} {r : List Sk} {k j : Nat} {a : Sk} (h : r[j]? = some a) : Sk.bads q (r.drop j) p k = match Sk.bad q a (p ++ [(k : Int)]) with
    | some z => some z
    | none => Sk.bads q (r.drop (j + 1)) p (k + 1) := by
  obtain ⟨l, e⟩ := List.getElem?_eq_some_iff.mp h
  subst e
  rw [List.drop_eq_getElem_cons l, Sk.bads]
  all_goals (cases Sk.bad q r[j] (p ++ [(k : Int)]) <;> rfl)
def sp_law_due (K : PySem.W.Frag) (d : Nat) : Sp := fun vs H Q _ => ∃ (v : V) (b : PyData) (q : Int) (t : Addr) (path : List Int) (p : Addr), vs = [v, .int q, .ref t] ∧ Dx K p H v b ∧ SqT K H t (path.map V.int) ∧ b.depth < d ∧ b.bulk ≤ 100000 ∧ path.length + b.depth ≤ 1000 ∧
  ∀ x H', Same H H' → PathV K H' (Sk.bad q (skD b) path) x → Q x H'

abbrev s_law_due : Stmt := top 22
theorem sc_law_due : FnScope ["value", "q", "path", "sizes", "k", "found"] ["value", "q", "path"] (defScope s_law_due) := ⟨rfl, rfl, rfl, by decide +kernel, rfl, by decide +kernel, by decide +kernel⟩
theorem ok_law_due {f : Addr} {fd : FuncData} (F : Fun K "_law_due" "_law_due" s_law_due f fd) (m_range : mg "range" = none) (m_len : mg "len" = none) (m_isinstance : mg "isinstance" = none) (m_tuple : mg "tuple" = none) (m_str : mg "str" = none) (c__law_is_leaf : Cal P w K mg base "_law_is_leaf" 1 ["value", "q"] (sp_law_is_leaf K)) (m__law_due : mg "_law_due" = some (.ref f)) (k__law_due : PySem.W.keepIn K (.ref f) = true) (b__law_due : Binds K fd ["value", "q", "path"] []) : ∀ d : Nat, FnG P w K mg base CX0 (2 + d) f fd ["value", "q", "path"] (sp_law_due K d) := by
  obtain ⟨f__law_is_leaf, fd__law_is_leaf, G__law_is_leaf, m__law_is_leaf, k__law_is_leaf, b__law_is_leaf⟩ := c__law_is_leaf.ex
  intro d
  induction d with
  | zero => exact okG (k := 1) F sc_law_due (fun vs H Q E ⟨v, b, q, t, path, p, e, _⟩ => e ▸ rfl) (fun cdv A' o s H vs Q E hr ⟨v, b, q, t, path, p, e, _, _, hd, _⟩ => absurd hd (Nat.not_lt_zero _))
  | succ d G__law_due =>
    refine okG (k := 2 + d) F sc_law_due (fun vs H Q E h => ?_) (fun cdv A' o s H vs Q E hr h => ?_)
    · obtain ⟨v, b, q, t, path, p, rfl, _⟩ := h
      rfl
    obtain ⟨v, b, q, t, path, p, rfl, hv, hT, hd, hb, hp, done⟩ := h
    refine ⟨_, (pss_cons (ps_if (pt_val (ge_call G__law_is_leaf (hr.mono (by first | decide | omega)) (by rfl) m__law_is_leaf k__law_is_leaf b__law_is_leaf .nil pass0 (pa_cons (pv 0) (pa_cons (pv 1) pa_nil)))) (pss_one (ps_ret pe_non)) pss_nil)
      (Evl.pss_cut (ps_if (PW.pt (pw_or (pt_not (pt_val (pe_callB call_isi (by rfl) m_isinstance (by decide +kernel) (pa_cons (pv 0) (pa_cons (pe_bltn (v := .ty "tuple") (by rfl) m_tuple (by decide +kernel) rfl) pa_nil))))) (pw_or (pt_cmpR (op_eqE hr.r.units) (pv 0) (pe_tup pa_nil) (nomark _)) (pw_or1 (pt_not (pt_val (pe_callB call_isi (by rfl) m_isinstance (by decide +kernel) (pa_cons (pe_ix ix_tup (pv 0) pe_int (fun _ _ => rfl)) (pa_cons (pe_bltn (v := .ty "str") (by rfl) m_str (by decide +kernel) rfl) pa_nil))))))))) (pss_one (ps_ret (pv 2))) pss_nil)
      (pss_cons (ps_set (i := 3) sc_law_due.nd rfl (Or.inl rfl) (pe_disp (pps_cons pe_str pe_int (pps_cons pe_str pe_int (pps_cons pe_str pe_int (pps_cons pe_str pe_int (pps_cons pe_str pe_int (pps_cons pe_str pe_int pps_nil)))))) (by rfl) (by rfl) (fun z => by cases z) (by decide)))
      (pss_cons (ps_if (pt_cmpR op_ne (pe_callB call_len_seq (by rfl) m_len (by decide +kernel) (pa_cons (pv 0) pa_nil)) (pe_dget2 (hu_of hr.r) (pv 3) (pe_ix ix_tup (pv 0) pe_int (fun _ _ => rfl)) pe_int ⟨rfl, rfl, rfl, rfl⟩) (nomark _)) (pss_one (ps_ret (pv 2))) pss_nil)
      (pss_cons (ps_for PassesOwn.never rfl (pi_range2 rfl m_range (pa_cons pe_int (pa_cons (pe_callB call_len_seq (by rfl) m_len (by decide +kernel) (pa_cons (pv 0) pa_nil)) pa_nil))) (pg_name (i := 4) sc_law_due.nd rfl (Or.inl rfl)) (pss_cons (ps_set (i := 5) sc_law_due.nd rfl (Or.inl rfl) (ge_call G__law_due (hr.mono (by first | decide | omega)) (by rfl) m__law_due k__law_due b__law_due .nil pass0 (pa_cons (pe_ix ix_tup (pv 0) (pv 4) (fun _ _ => rfl)) (pa_cons (pv 1) (pa_cons (pe_op op_catS (pv 2) (pe_tup (pa_cons (pv 4) pa_nil))) pa_nil)))))
      (pss_one (ps_if (pt_cmpR op_notN (pv 5) pe_non (nomark _)) (pss_one (ps_ret (pv 5))) pss_nil))))
      (pss_one (ps_ret pe_non))))))), ?_⟩
    refine ⟨_, rfl, _, rfl, v, b, q, p, rfl, hv, hb, fun H1 s1 => ⟨_, rfl, ?_⟩⟩
    have hv1 := Dx.same s1 hv
    have hT1 := Same.seqT s1 hT
    cases lf : (Sx.isRes q (skD b) || Sx.isVar (skD b)) with
    | true =>
      refine iteT (done _ _ s1 ?_)
      rw [bad_leaf lf]
      rfl
    | false =>
      refine iteF ?_
      have sv := dx_sv b v hv1 hb
      obtain ⟨ty, hx, kb⟩ := isi_t sv
      have ret : Sk.built q (skD b) = false → Q (.ref t) H1 := fun e => done _ _ s1 (by rw [bad_not e]; exact ⟨t, rfl, hT1⟩)
      refine ⟨fun σ' H' => (∃ w r a xs, b = .tuple (.str w :: r) ∧ v = .ref a ∧ SqT K H' a (.str w :: xs) ∧ DxAll K p H' xs r) ∧ Same H H' ∧ σ' = [some v, some (.int q), some (.ref t), none, none, none], ?_, ?_⟩
      · refine ⟨_, rfl, _, _, _, _, _, rfl, .ty _, hx, kb, _, rfl, ?_⟩
        have nb : (skD b).isT = false → Sk.built q (skD b) = false := fun e => by
          rw [Sx.built_eq, e, if_neg Bool.false_ne_true]; exact lf
        cases b with
        | tuple ds =>
          cases hv1 with
          | @tup a xs _ hs ha =>
            refine iteF ⟨_, rfl, Nat.zero_le _, fun e0 he0 => ?_⟩
            have s2 := same_new he0 (.tup [])
            refine ⟨a, e0, xs, rfl, rfl, Same.seqT s2 hs, SqT.of upd_same, _, rfl, ?_⟩
            cases ha with
            | nil => exact iteT ⟨_, rfl, done _ _ (s1.trans s2) (by rw [bad_not (show Sk.built q (skD (.tuple [])) = false from rfl)]; exact ⟨t, rfl, Same.seqT s2 hT1⟩)⟩
            | @cons u us dd r hu hr' =>
              refine iteF ?_
              have hu2 := Dx.same s2 hu
              have bb : dd.bulk + 1 + PyData.bulkAll r ≤ 100000 := hb
              obtain ⟨ty3, hx3, kb3⟩ := isi_s (dx_sv dd u hu2 (by omega))
              refine ⟨_, rfl, a, _, 0, u, rfl, rfl, Same.seqT s2 hs, (show atI (u :: us) ((0 : Nat) : Int) = some u from atI_nat rfl), _, _, _, _, _, rfl, .ty _, hx3, kb3, _, rfl, ?_⟩
              have no : (skD dd).isS = false → Q (.ref t) (upd H1 e0 (.tup [])) := fun e => done _ _ (s1.trans s2) (by
                have : Sk.built q (skD (.tuple (dd :: r))) = false := by
                  show Sk.built q (.t (skD dd :: skDs r)) = false
                  cases c : skD dd with
                  | s x => rw [c] at e; cases e
                  | i n => rfl
                  | o => rfl
                  | t ys => rfl
                rw [bad_not this]
                exact ⟨t, rfl, Same.seqT s2 hT1⟩)
              cases hu2 with
              | str w => exact iteF ⟨⟨w, r, a, us, rfl, rfl, Same.seqT s2 hs, DxAll.same s2 hr'⟩, s1.trans s2, rfl⟩
              | non => exact iteT ⟨_, rfl, no rfl⟩
              | bl _ => exact iteT ⟨_, rfl, no rfl⟩
              | int _ => exact iteT ⟨_, rfl, no rfl⟩
              | lst _ _ _ _ => exact iteT ⟨_, rfl, no rfl⟩
              | tup _ _ => exact iteT ⟨_, rfl, no rfl⟩
              | emp _ _ => exact iteT ⟨_, rfl, no rfl⟩
        | none => exact iteT ⟨_, rfl, ret (nb rfl)⟩
        | bool _ => exact iteT ⟨_, rfl, ret (nb rfl)⟩
        | int _ => exact iteT ⟨_, rfl, ret (nb rfl)⟩
        | str _ => exact iteT ⟨_, rfl, ret (nb rfl)⟩
        | list _ => exact iteT ⟨_, rfl, ret (nb rfl)⟩
        | dict _ => exact iteT ⟨_, rfl, ret (nb rfl)⟩
      rintro _ H2 ⟨⟨w, r, a, xs, rfl, rfl, hs, ha⟩, s2, rfl⟩
      have hT2 := Same.seqT s2 hT
      have xl := ha.len
      refine fun m hm => ⟨upd_same, sizesK, rfl, (by show 6 ≤ 15; omega), ?_⟩
      rw [mergeK_all (by show List.Nodup [(Sum.inr "plus" : Key), .inr "minus", .inr "times", .inr "and", .inr "or", .inr "not"]; decide +kernel)]
      have s3 := same_mut (o := .dK sizesK) (same_new hm (.dK [])) hm
      have eM : upd (upd H2 m (.dK [])) m (.dK sizesK) m = some (.dK sizesK) := upd_same
      revert s3 eM
      generalize upd (upd H2 m (.dK [])) m (.dK sizesK) = H3
      intro s3 eM
      have hs3 := Same.seqT s3 hs
      have hT3 := Same.seqT s3 hT2
      have ha3 := DxAll.same s3 ha
      refine ⟨_, rfl, a, _, rfl, .inr hs3, _, rfl, m, rfl, .inl ⟨_, .inl eM⟩, _, rfl, a, _, 0, .str w, rfl, rfl, hs3, (show atI (V.str w :: xs) ((0 : Nat) : Int) = some (.str w) from atI_nat rfl), _, DGet.k (k := Sum.inr w) eM, ?_⟩
      have el : ((V.str w :: xs).length : Int) = (r.length : Int) + 1 := by rw [List.length_cons, xl]; omega
      refine ⟨?_, _, rfl, ?_⟩
      · show scal (V.int _) ((valV sizesK (.inr w)).getD (.int 0)) = true
        unfold valV
        cases c : sizesK.find? fun kv => decide (kv.1 = (Sum.inr w : Key)) with
        | none => rfl
        | some kv =>
          have := List.mem_of_find?_eq_some c
          simp only [sizesK, List.mem_cons, List.not_mem_nil, or_false] at this
          rcases this with rfl | rfl | rfl | rfl | rfl | rfl <;> rfl
      rw [el]
      have so := sizes_opc w r.length
      refine (show if (!decide (V.int ((r.length : Int) + 1) = (valV sizesK (.inr w)).getD (.int 0))) = true then _ else _ from ?_)
      rw [so]
      have bt : Sk.built q (skD (.tuple (.str w :: r))) = decide (Sk.opc w = some r.length) := by
        show decide (Sk.opc w = some (skDs r).length) = _
        rw [skDs_len]
      by_cases op : Sk.opc w = some r.length
      rotate_left
      · rw [decide_eq_false op]
        refine iteT ⟨_, rfl, done _ _ (s2.trans s3) ?_⟩
        rw [bad_not (by rw [bt]; exact decide_eq_false op)]
        exact ⟨t, rfl, hT3⟩
      rw [decide_eq_true op]
      refine iteF ?_
      have hbad : Sk.bad q (skD (.tuple (.str w :: r))) path = Sk.bads q (skDs r) path 1 := by
        show Sk.bad q (.t (.s w :: skDs r)) path = _
        rw [Sk.bad, if_pos (show Sk.built q (.t (.s w :: skDs r)) = true by rw [← show skD (.tuple (.str w :: r)) = .t (.s w :: skDs r) from rfl, bt]; exact decide_eq_true op)]
      rw [hbad] at done
      have bb : PyData.bulk (.str w) + 1 + PyData.bulkAll r ≤ 100000 := hb
      have rl : r.length ≤ PyData.bulkAll r := Nat.le_trans (by rw [← skDs_len]; exact Sk.sizes_len _) (skDs_size r)
      have dd : max 0 (PyData.depthAll r) + 1 < d + 1 := hd
      have hp2 : path.length + (max 0 (PyData.depthAll r) + 1) ≤ 1000 := hp
      have b62 : (200000 : Int) < 2 ^ 62 := by decide
      refine ⟨_, rfl, a, _, rfl, .inr hs3, ?_⟩
      rw [el]
      refine ⟨1, _, rfl, ⟨by omega, by omega, by omega, by omega⟩, ?_⟩
      rw [show ((r.length : Int) + 1 - 1).toNat = r.length by omega]
      refine for_range (n := r.length) (fun j σ' H' => Same H3 H' ∧ Sk.bads q (skDs r) path 1 = Sk.bads q ((skDs r).drop j) path (1 + j) ∧ ∃ x4 x5, σ' = [some (.ref a), some (.int q), some (.ref t), some (.ref m), x4, x5]) ⟨Same.refl _, rfl, _, _, rfl⟩ ?_ ?_
      · rintro j σ' H4 hj ⟨s4, hj4, x4, x5, rfl⟩
        have hs4 := Same.seqT s4 hs3
        have hT4 := Same.seqT s4 hT3
        obtain ⟨u, hu, du⟩ := DxAll.get (i := j) (d := r[j]) (DxAll.same s4 ha3) (List.getElem?_eq_getElem hj)
        have pos : (1 : Int) + (j : Int) = ((1 + j : Nat) : Int) := by omega
        obtain ⟨gd1, gd2⟩ : r[j].depth ≤ PyData.depthAll r ∧ r[j].bulk ≤ PyData.bulkAll r := ⟨depth_mem (List.getElem_mem hj), bulk_mem (List.getElem_mem hj)⟩
        refine ⟨_, rfl, _, rfl, a, _, _, u, rfl, rfl, hs4, (by rw [pos]; exact atI_nat (by rw [show 1 + j = j + 1 by omega, List.getElem?_cons_succ]; exact hu)), _, rfl, _, rfl, _, rfl, (by show 1 ≤ sizeLine; decide), fun t1 ht1 => ?_⟩
        have s5 := same_new ht1 (.tup [V.int (1 + (j : Int))])
        refine ⟨t, t1, _, _, rfl, rfl, Same.seqT s5 hT4, SqT.of upd_same, ?_, fun t2 H5 s6 hT5 => ?_⟩
        · rw [List.length_map]; exact Nat.le_trans (show path.length + 1 ≤ 1001 by omega) (by decide)
        refine ⟨u, r[j], q, t2, path ++ [((1 + j : Nat) : Int)], p, rfl, Dx.same (s5.trans s6) du, ?_, by omega, by omega, ?_, fun x H6 s7 hx7 => ?_⟩
        · rw [List.map_append, ← pos]; exact hT5
        · rw [List.length_append]; simp only [List.length_cons, List.length_nil]; omega
        have jd : (skDs r)[j]? = some (skD r[j]) := by rw [skDs_get, List.getElem?_eq_getElem hj]; rfl
        rw [bads_drop jd] at hj4
        have s47 : Same H3 H6 := s4.trans (s5.trans (s6.trans s7))
        cases c : Sk.bad q (skD r[j]) (path ++ [((1 + j : Nat) : Int)]) with
        | some z =>
          rw [c] at hx7 hj4
          obtain ⟨a7, rfl, h7⟩ := hx7
          refine ⟨_, rfl, rfl, _, rfl, ?_⟩
          refine iteT ⟨_, rfl, done _ _ (s2.trans (s3.trans s47)) ?_⟩
          rw [hj4]
          exact ⟨a7, rfl, h7⟩
        | none =>
          rw [c] at hx7 hj4
          obtain rfl : x = .non := hx7
          refine ⟨_, rfl, rfl, _, rfl, ?_⟩
          rw [show (!decide (V.non = V.non)) = false from by rw [decide_eq_true rfl]; rfl]
          exact iteF ⟨s47, by rw [hj4, show 1 + j + 1 = 1 + (j + 1) by omega], _, _, rfl⟩
      · rintro σ' H4 ⟨s4, hj4, x4, x5, rfl⟩
        rw [List.drop_of_length_le (by rw [skDs_len]; exact Nat.le_refl _), Sk.bads] at hj4
        exact done _ _ (s2.trans (s3.trans s4)) (by rw [hj4]; rfl)

end
end Vk06

namespace Vk06
open PySem PySem.Spec PyProof.Rows L2 Vx
section
variable {P : Program} {w : World} {K : PySem.W.Frag} {mg : Str → Option Value} {base : Heap}
def OddAll (q : Int) (ds : List PyData) : Prop := ∀ d ∈ ds, Bd q d ∧ Gd d 3 60
theorem oa_nil {q : Int} : OddAll q [] := fun d h => nomatch h
theorem oa_cons {q : Int} {d : PyData} {ds : List PyData} (h : Bd q d ∧ Gd d 3 60) (r : OddAll q ds) : OddAll q (d :: ds) := fun e he => by
  rcases List.mem_cons.mp he with rfl | he
  · exact h
  · exact r _ he
theorem oa_app {q : Int} {ds es : List PyData} (h : OddAll q ds) (r : OddAll q es) : OddAll q (ds ++ es) := fun e he => (List.mem_append.mp he).elim (h e) (r e)
theorem bd_q {q : Int} : Bd q (.int q) := badB_ok _ (by
  show (!(decide (0 ≤ q) && decide (q < q))) = true
  rw [decide_eq_false (Int.lt_irrefl q), Bool.and_false]; rfl)
theorem bd_big {q n : Int} (hq : q ≤ n) : Bd q (.int n) := badB_ok _ (by
  show (!(decide (0 ≤ n) && decide (n < q))) = true
  rw [decide_eq_false (show ¬ n < q by omega), Bool.and_false]; rfl)
theorem odd_k {q : Int} {d : PyData} (h : badB q (skD d) = true) (a : d.showable = true) (b : d.leavesShort 60 = true) (c : d.depth ≤ 3) (e : d.bulk ≤ 60) : Bd q d ∧ Gd d 3 60 := ⟨badB_ok _ h, ⟨a, b, c, e⟩⟩
def O1 (q : Int) : List PyData := [.int q, .int (-1), .bool true, .bool false, .none, .list [], .list [.str "plus", .int 1, .int 1], .tuple [], .tuple [.str "plus"], .tuple [.str "plus", .int 1], .tuple [.str "plus", .int 1, .int 1, .int 1]]
def O2 : List PyData := [.tuple [.str "not", .int 1, .int 1], .tuple [.str "not"], .tuple [.str "by", .int 1, .int 1], .tuple [.str "Plus", .int 1, .int 1], .tuple [.int 1, .int 1, .int 1], .str "X", .str "x1", .str "", .str "abcdefg", .str "a b"]
def O3 : List PyData := [.dict [], .tuple [.tuple [], .int 1, .int 1], .str "x\n", .str "\nx", .str "x\t", .str "xX", .str "x1", .str "x_"]
def O4 : List PyData := [.tuple [.str "minus", .str "x"], .tuple [.str "and", .int 1], .tuple [.str "or", .int 1, .int 1, .int 1], .tuple [.str "and", .int 1, .int 1, .int 1], .tuple [.str "times", .int 1, .int 1, .int 1], .tuple [.str "minus", .int 1, .int 1, .int 1]]
def O5 : List PyData := [.tuple [.str "or"], .tuple [.str "not", .str "x", .str "x"], .tuple [.str "times", .str "x"]]
def O6 (q : Int) : List PyData := [.tuple [.str "times", .int q, .int q], .tuple [.str "and", .str "x", .str "X"], .tuple [.str "or", .tuple [.str "not", .int (-1)], .none], .int (10 ^ (40 : Int).toNat), .str "x_", .tuple [.str "not", .tuple [.str "not", .list []]]]
theorem gd_q {q : Int} (hq : 2 ≤ q) (hq2 : q ≤ 1000) (n m : Nat) : Gd (.int q) n m := gd_int (Nat.lt_trans (show q.natAbs < 1001 by omega) (by decide)) n m
theorem o1_ok {q : Int} (hq : 2 ≤ q) (hq2 : q ≤ 1000) : OddAll q (O1 q) := by
  unfold O1
  refine oa_cons ⟨bd_q, gd_q hq hq2 _ _⟩ ?_
  repeat (refine oa_cons (odd_k (by rfl) (by rfl) (by decide +kernel) (by decide) (by decide +kernel)) ?_)
  exact oa_nil
theorem o2_ok {q : Int} : OddAll q O2 := by
  unfold O2
  repeat (refine oa_cons (odd_k (by rfl) (by rfl) (by decide +kernel) (by decide) (by decide +kernel)) ?_)
  exact oa_nil
theorem o3_ok {q : Int} : OddAll q O3 := by
  unfold O3
  repeat (refine oa_cons (odd_k (by rfl) (by rfl) (by decide +kernel) (by decide) (by decide +kernel)) ?_)
  exact oa_nil
theorem o4_ok {q : Int} : OddAll q O4 := by
  unfold O4
  repeat (refine oa_cons (odd_k (by rfl) (by rfl) (by decide +kernel) (by decide) (by decide +kernel)) ?_)
  exact oa_nil
theorem o5_ok {q : Int} : OddAll q O5 := by
  unfold O5
  repeat (refine oa_cons (odd_k (by rfl) (by rfl) (by decide +kernel) (by decide) (by decide +kernel)) ?_)
  exact oa_nil
theorem o6_ok {q : Int} (hq : 2 ≤ q) (hq2 : q ≤ 1000) : OddAll q (O6 q) := by
  unfold O6
  refine oa_cons ⟨Bd.tuple (i := 0) rfl bd_q, ?_⟩ ?_
  · have w : Gd (.str "times") 0 5 := ⟨rfl, by decide +kernel, Nat.zero_le _, by decide +kernel⟩
    exact (Gds.cons w (Gds.cons (gd_q hq hq2 0 0) (Gds.cons (gd_q hq hq2 0 0) (Gds.nil 0 0)))).tup.mono (by decide) (by decide)
  refine oa_cons (odd_k (by rfl) (by rfl) (by decide +kernel) (by decide) (by decide +kernel)) ?_
  refine oa_cons (odd_k (by rfl) (by rfl) (by decide +kernel) (by decide) (by decide +kernel)) ?_
  refine oa_cons ⟨bd_big (Int.le_trans hq2 (by decide +kernel)), by decide +kernel, by decide +kernel, by decide, by decide⟩ ?_
  repeat (refine oa_cons (odd_k (by rfl) (by rfl) (by decide +kernel) (by decide) (by decide +kernel)) ?_)
  exact oa_nil
def sp_law_odd (K : PySem.W.Frag) : Sp := fun vs H Q _ => ∃ (p : Addr) (q : Int), vs = [.ref p, .int q] ∧ Pen K H p ∧ 2 ≤ q ∧ q ≤ 1000 ∧ ∀ v d H', Dr p H H' → Dx K p H' v d → Bd q d → Gd d 3 60 → Q v H'

abbrev s_law_odd : Stmt := top 23
theorem sc_law_odd : FnScope ["pen", "q", "odd"] ["pen", "q"] (defScope s_law_odd) := ⟨rfl, rfl, rfl, by decide +kernel, rfl, by decide +kernel, by decide +kernel⟩
theorem ok_law_odd {f : Addr} {fd : FuncData} (F : Fun K "_law_odd" "_law_odd" s_law_odd f fd) (m_len : mg "len" = none) (c__law_draw : Cal P w K mg base "_law_draw" 2 ["pen", "many"] (sp_law_draw K)) : FnG P w K mg base CX0 3 f fd ["pen", "q"] (sp_law_odd K) := by
  obtain ⟨f__law_draw, fd__law_draw, G__law_draw, m__law_draw, k__law_draw, b__law_draw⟩ := c__law_draw.ex
  refine okG F sc_law_odd (fun vs H Q E h => ?_) (fun cdv A' o s H vs Q E hr h => ?_)
  · obtain ⟨p, q, rfl, _⟩ := h
    rfl
  obtain ⟨p, q, rfl, hP, hq, hq2, done⟩ := h
  refine ⟨_, (pss_cons (ps_set (i := 2) sc_law_odd.nd rfl (Or.inl rfl) (pe_lst (paD_cons (peD_var (pv 1)) (paD_cons peD_neg (paD_cons peD_bl (paD_cons peD_bl (paD_cons peD_non (paD_cons (peD_lst paD_nil) (paD_cons (peD_lst (paD_cons peD_str (paD_cons peD_int (paD_cons peD_int paD_nil)))) (paD_cons (peD_tup paD_nil) (paD_cons (peD_tup (paD_cons peD_str paD_nil)) (paD_cons (peD_tup (paD_cons peD_str (paD_cons peD_int paD_nil))) (paD_cons (peD_tup (paD_cons peD_str (paD_cons peD_int (paD_cons peD_int (paD_cons peD_int paD_nil))))) paD_nil)))))))))))))
      (pss_cons (ps_set (i := 2) sc_law_odd.nd rfl (Or.inl rfl) (pe_op op_cat (pv 2) (pe_lst (paD_cons (peD_tup (paD_cons peD_str (paD_cons peD_int (paD_cons peD_int paD_nil)))) (paD_cons (peD_tup (paD_cons peD_str paD_nil)) (paD_cons (peD_tup (paD_cons peD_str (paD_cons peD_int (paD_cons peD_int paD_nil)))) (paD_cons (peD_tup (paD_cons peD_str (paD_cons peD_int (paD_cons peD_int paD_nil)))) (paD_cons (peD_tup (paD_cons peD_int (paD_cons peD_int (paD_cons peD_int paD_nil)))) (paD_cons peD_str (paD_cons peD_str (paD_cons peD_str (paD_cons peD_str (paD_cons peD_str paD_nil)))))))))))))
      (pss_cons (ps_set (i := 2) sc_law_odd.nd rfl (Or.inl rfl) (pe_op op_cat (pv 2) (pe_lst (paD_cons peD_emp (paD_cons (peD_tup (paD_cons (peD_tup paD_nil) (paD_cons peD_int (paD_cons peD_int paD_nil)))) (paD_cons peD_str (paD_cons peD_str (paD_cons peD_str (paD_cons peD_str (paD_cons peD_str (paD_cons peD_str paD_nil)))))))))))
      (pss_cons (ps_set (i := 2) sc_law_odd.nd rfl (Or.inl rfl) (pe_op op_cat (pv 2) (pe_lst (paD_cons (peD_tup (paD_cons peD_str (paD_cons peD_str paD_nil))) (paD_cons (peD_tup (paD_cons peD_str (paD_cons peD_int paD_nil))) (paD_cons (peD_tup (paD_cons peD_str (paD_cons peD_int (paD_cons peD_int (paD_cons peD_int paD_nil))))) (paD_cons (peD_tup (paD_cons peD_str (paD_cons peD_int (paD_cons peD_int (paD_cons peD_int paD_nil))))) (paD_cons (peD_tup (paD_cons peD_str (paD_cons peD_int (paD_cons peD_int (paD_cons peD_int paD_nil))))) (paD_cons (peD_tup (paD_cons peD_str (paD_cons peD_int (paD_cons peD_int (paD_cons peD_int paD_nil))))) paD_nil)))))))))
      (pss_cons (ps_set (i := 2) sc_law_odd.nd rfl (Or.inl rfl) (pe_op op_cat (pv 2) (pe_lst (paD_cons (peD_tup (paD_cons peD_str paD_nil)) (paD_cons (peD_tup (paD_cons peD_str (paD_cons peD_str (paD_cons peD_str paD_nil)))) (paD_cons (peD_tup (paD_cons peD_str (paD_cons peD_str paD_nil))) paD_nil))))))
      (pss_cons (ps_set (i := 2) sc_law_odd.nd rfl (Or.inl rfl) (pe_op op_cat (pv 2) (pe_lst (paD_cons (peD_tup (paD_cons peD_str (paD_cons (peD_var (pv 1)) (paD_cons (peD_var (pv 1)) paD_nil)))) (paD_cons (peD_tup (paD_cons peD_str (paD_cons peD_str (paD_cons peD_str paD_nil)))) (paD_cons (peD_tup (paD_cons peD_str (paD_cons (peD_tup (paD_cons peD_str (paD_cons peD_neg paD_nil))) (paD_cons peD_non paD_nil)))) (paD_cons (peD_pow ⟨by decide, by decide, by decide⟩) (paD_cons peD_str (paD_cons (peD_tup (paD_cons peD_str (paD_cons (peD_tup (paD_cons peD_str (paD_cons (peD_lst paD_nil) paD_nil))) paD_nil))) paD_nil)))))))))
      (pss_one (ps_ret (pe_ix ix_list (pv 2) (ge_call G__law_draw (hr.mono (by first | decide | omega)) (by rfl) m__law_draw k__law_draw b__law_draw .nil pass0 (pa_cons (pv 0) (pa_cons (pe_callB call_len_seq (by rfl) m_len (by decide +kernel) (pa_cons (pv 2) pa_nil)) pa_nil))) (fun _ _ => rfl)))))))))), ?_⟩
  have ne : ∀ {H'}, Same H H' → H' p ≠ none := fun s => some_same s (by obtain ⟨c, ns, i, m, hp, _⟩ := hP; rw [hp]; exact fun z => nomatch z)
  refine ⟨by repeat' first | exact trivial | exact ⟨q, rfl⟩ | constructor, p, ne (Same.refl _), fun vs1 H1 s1 d1 => ⟨by rw [d1.len]; show 11 ≤ sizeLine; decide, fun l1 hl1 => ?_⟩⟩
  have d1 : DxAll K p H1 vs1 (O1 q) := d1
  have n1 : vs1.length = 11 := d1.len
  have t1 := s1.trans (same_new hl1 (.lst vs1))
  have e1 : upd H1 l1 (.lst vs1) l1 = some (.lst vs1) := upd_same
  have d1 := DxAll.same (same_new hl1 (.lst vs1)) d1
  revert t1 e1 d1
  generalize upd H1 l1 (.lst vs1) = H1'
  intro t1 e1 d1
  refine ⟨_, rfl, (by repeat' first | exact trivial | exact ⟨q, rfl⟩ | constructor), p, ne t1, fun vs2 H2 s2 d2 => ⟨by rw [d2.len]; show 10 ≤ sizeLine; decide, fun l2 hl2 => ⟨l1, l2, _, _, rfl, rfl, (s2.trans (same_new hl2 (.lst vs2))) _ _ e1, upd_same, (by rw [n1, d2.len]; show 11 + 10 ≤ sizeLine; decide), fun m2 hm2 => ?_⟩⟩⟩
  have d2 : DxAll K p H2 vs2 (O2) := d2
  have z2 := (same_new hl2 (.lst vs2)).trans (same_new hm2 (.lst (vs1 ++ vs2)))
  have e2 : upd (upd H2 l2 (.lst vs2)) m2 (.lst (vs1 ++ vs2)) m2 = some (.lst (vs1 ++ vs2)) := upd_same
  have n2 : (vs1 ++ vs2).length = 21 := by rw [List.length_append, n1, d2.len]; rfl
  have d2 := (DxAll.same (s2.trans z2) d1).app (DxAll.same z2 d2)
  have t2 := t1.trans (s2.trans z2)
  clear z2 s2 t1 e1 d1 n1
  revert t2 e2 n2 d2
  generalize upd (upd H2 l2 (.lst vs2)) m2 (.lst (vs1 ++ vs2)) = H2'
  generalize vs1 ++ vs2 = xs2
  intro e2 n2 d2 t2
  refine ⟨_, rfl, (by repeat' first | exact trivial | exact ⟨q, rfl⟩ | constructor), p, ne t2, fun vs3 H3 s3 d3 => ⟨by rw [d3.len]; show 8 ≤ sizeLine; decide, fun l3 hl3 => ⟨m2, l3, _, _, rfl, rfl, (s3.trans (same_new hl3 (.lst vs3))) _ _ e2, upd_same, (by rw [n2, d3.len]; show 21 + 8 ≤ sizeLine; decide), fun m3 hm3 => ?_⟩⟩⟩
  have d3 : DxAll K p H3 vs3 (O3) := d3
  have z3 := (same_new hl3 (.lst vs3)).trans (same_new hm3 (.lst (xs2 ++ vs3)))
  have e3 : upd (upd H3 l3 (.lst vs3)) m3 (.lst (xs2 ++ vs3)) m3 = some (.lst (xs2 ++ vs3)) := upd_same
  have n3 : (xs2 ++ vs3).length = 29 := by rw [List.length_append, n2, d3.len]; rfl
  have d3 := (DxAll.same (s3.trans z3) d2).app (DxAll.same z3 d3)
  have t3 := t2.trans (s3.trans z3)
  clear z3 s3 t2 e2 d2 n2
  revert t3 e3 n3 d3
  generalize upd (upd H3 l3 (.lst vs3)) m3 (.lst (xs2 ++ vs3)) = H3'
  generalize xs2 ++ vs3 = xs3
  intro e3 n3 d3 t3
  refine ⟨_, rfl, (by repeat' first | exact trivial | exact ⟨q, rfl⟩ | constructor), p, ne t3, fun vs4 H4 s4 d4 => ⟨by rw [d4.len]; show 6 ≤ sizeLine; decide, fun l4 hl4 => ⟨m3, l4, _, _, rfl, rfl, (s4.trans (same_new hl4 (.lst vs4))) _ _ e3, upd_same, (by rw [n3, d4.len]; show 29 + 6 ≤ sizeLine; decide), fun m4 hm4 => ?_⟩⟩⟩
  have d4 : DxAll K p H4 vs4 (O4) := d4
  have z4 := (same_new hl4 (.lst vs4)).trans (same_new hm4 (.lst (xs3 ++ vs4)))
  have e4 : upd (upd H4 l4 (.lst vs4)) m4 (.lst (xs3 ++ vs4)) m4 = some (.lst (xs3 ++ vs4)) := upd_same
  have n4 : (xs3 ++ vs4).length = 35 := by rw [List.length_append, n3, d4.len]; rfl
  have d4 := (DxAll.same (s4.trans z4) d3).app (DxAll.same z4 d4)
  have t4 := t3.trans (s4.trans z4)
  clear z4 s4 t3 e3 d3 n3
  revert t4 e4 n4 d4
  generalize upd (upd H4 l4 (.lst vs4)) m4 (.lst (xs3 ++ vs4)) = H4'
  generalize xs3 ++ vs4 = xs4
  intro e4 n4 d4 t4
  refine ⟨_, rfl, (by repeat' first | exact trivial | exact ⟨q, rfl⟩ | constructor), p, ne t4, fun vs5 H5 s5 d5 => ⟨by rw [d5.len]; show 3 ≤ sizeLine; decide, fun l5 hl5 => ⟨m4, l5, _, _, rfl, rfl, (s5.trans (same_new hl5 (.lst vs5))) _ _ e4, upd_same, (by rw [n4, d5.len]; show 35 + 3 ≤ sizeLine; decide), fun m5 hm5 => ?_⟩⟩⟩
  have d5 : DxAll K p H5 vs5 (O5) := d5
  have z5 := (same_new hl5 (.lst vs5)).trans (same_new hm5 (.lst (xs4 ++ vs5)))
  have e5 : upd (upd H5 l5 (.lst vs5)) m5 (.lst (xs4 ++ vs5)) m5 = some (.lst (xs4 ++ vs5)) := upd_same
  have n5 : (xs4 ++ vs5).length = 38 := by rw [List.length_append, n4, d5.len]; rfl
  have d5 := (DxAll.same (s5.trans z5) d4).app (DxAll.same z5 d5)
  have t5 := t4.trans (s5.trans z5)
  clear z5 s5 t4 e4 d4 n4
  revert t5 e5 n5 d5
  generalize upd (upd H5 l5 (.lst vs5)) m5 (.lst (xs4 ++ vs5)) = H5'
  generalize xs4 ++ vs5 = xs5
  intro e5 n5 d5 t5
  refine ⟨_, rfl, (by repeat' first | exact trivial | exact ⟨q, rfl⟩ | constructor), p, ne t5, fun vs6 H6 s6 d6 => ⟨by rw [d6.len]; show 6 ≤ sizeLine; decide, fun l6 hl6 => ⟨m5, l6, _, _, rfl, rfl, (s6.trans (same_new hl6 (.lst vs6))) _ _ e5, upd_same, (by rw [n5, d6.len]; show 38 + 6 ≤ sizeLine; decide), fun m6 hm6 => ?_⟩⟩⟩
  have d6 : DxAll K p H6 vs6 (O6 q) := d6
  have z6 := (same_new hl6 (.lst vs6)).trans (same_new hm6 (.lst (xs5 ++ vs6)))
  have e6 : upd (upd H6 l6 (.lst vs6)) m6 (.lst (xs5 ++ vs6)) m6 = some (.lst (xs5 ++ vs6)) := upd_same
  have n6 : (xs5 ++ vs6).length = 44 := by rw [List.length_append, n5, d6.len]; rfl
  have d6 := (DxAll.same (s6.trans z6) d5).app (DxAll.same z6 d6)
  have t6 := t5.trans (s6.trans z6)
  have m6p : m6 ≠ p := Pen.free (Pen.new (hP.same (t5.trans s6)) hl6 _) hm6
  clear z6 s6 t5 e5 d5 n5
  revert t6 e6 n6 d6
  generalize upd (upd H6 l6 (.lst vs6)) m6 (.lst (xs5 ++ vs6)) = H6'
  generalize xs5 ++ vs6 = xs6
  intro e6 n6 d6 t6
  have all : OddAll q (O1 q ++ O2 ++ O3 ++ O4 ++ O5 ++ O6 q) := oa_app (oa_app (oa_app (oa_app (oa_app (o1_ok hq hq2) o2_ok) o3_ok) o4_ok) o5_ok) (o6_ok hq hq2)
  have P6 := hP.same t6
  refine ⟨_, rfl, _, rfl, _, rfl, m6, _, rfl, .inl (SqL.of e6), p, 44, (by rw [n6]; rfl), P6, by decide, by decide, fun H7 r d7 r0 r1 => ?_⟩
  obtain ⟨k, rfl⟩ : ∃ k : Nat, r = (k : Int) := ⟨r.toNat, by omega⟩
  have ld : (O1 q ++ O2 ++ O3 ++ O4 ++ O5 ++ O6 q).length = 44 := rfl
  have kl : k < (O1 q ++ O2 ++ O3 ++ O4 ++ O5 ++ O6 q).length := by rw [ld]; omega
  obtain ⟨v, hv, dv⟩ := DxAll.get d6 (List.getElem?_eq_getElem kl)
  obtain ⟨b, g⟩ := all _ (List.getElem_mem kl)
  exact ⟨m6, _, _, v, rfl, rfl, SqL.of (d7.but _ _ m6p e6), atI_nat hv, done v _ H7 (Dr.same t6 |>.trans d7) (Dx.but P6.chg d7.but dv) b g⟩

def sp_law_replaced (K : PySem.W.Frag) (d : Nat) : Sp := fun vs H Q _ => ∃ (p : Addr) (v u : V) (b e : PyData) (q : Int) (n m : Nat), vs = [.ref p, v, u] ∧ Pen K H p ∧ Dx K p H v b ∧ Dx K p H u e ∧ Bd q e ∧ Gd e 3 60 ∧ Gd b n m ∧ m ≤ 10000 ∧ b.depth < d ∧ ∀ x b' H', Dr p H H' → Dx K p H' x b' → Bd q b' → Gd b' (n + 3) (m + 60) → Q x H'

abbrev s_law_replaced : Stmt := top 24
theorem sc_law_replaced : FnScope ["pen", "value", "odd", "k"] ["pen", "value", "odd"] (defScope s_law_replaced) := ⟨rfl, rfl, rfl, by decide +kernel, rfl, by decide +kernel, by decide +kernel⟩
theorem ok_law_replaced {f : Addr} {fd : FuncData} (F : Fun K "_law_replaced" "_law_replaced" s_law_replaced f fd) (m_isinstance : mg "isinstance" = none) (m_tuple : mg "tuple" = none) (m_len : mg "len" = none) (c__law_draw : Cal P w K mg base "_law_draw" 2 ["pen", "many"] (sp_law_draw K)) (m__law_replaced : mg "_law_replaced" = some (.ref f)) (k__law_replaced : PySem.W.keepIn K (.ref f) = true) (b__law_replaced : Binds K fd ["pen", "value", "odd"] []) : ∀ d : Nat, FnG P w K mg base CX0 (3 + d) f fd ["pen", "value", "odd"] (sp_law_replaced K d) := by
  obtain ⟨f__law_draw, fd__law_draw, G__law_draw, m__law_draw, k__law_draw, b__law_draw⟩ := c__law_draw.ex
  intro d
  induction d with
  | zero => exact okG (k := 2) F sc_law_replaced (fun vs H Q E ⟨p, v, u, b, e, q, n, m, z, _⟩ => z ▸ rfl) (fun cdv A' o s H vs Q E hr ⟨p, v, u, b, e, q, n, m, z, _, _, _, _, _, _, _, hd, _⟩ => absurd hd (Nat.not_lt_zero _))
  | succ d G__law_replaced =>
    refine okG (k := 3 + d) F sc_law_replaced (fun vs H Q E h => ?_) (fun cdv A' o s H vs Q E hr h => ?_)
    · obtain ⟨p, v, u, b, e, q, n, m, rfl, _⟩ := h
      rfl
    obtain ⟨p, v, u, b, e, q, n, m, rfl, hP, hv, hu, be, ge, gb, hm, hd, done⟩ := h
    refine ⟨_, (Evl.pss_cut (ps_if (PW.pt (pw_or (pt_not (pt_val (pe_callB call_isi (by rfl) m_isinstance (by decide +kernel) (pa_cons (pv 1) (pa_cons (pe_bltn (v := .ty "tuple") (by rfl) m_tuple (by decide +kernel) rfl) pa_nil))))) (pw_or (pt_cmpR op_lt (pe_callB call_len_seq (by rfl) m_len (by decide +kernel) (pa_cons (pv 1) pa_nil)) pe_int (nomark _)) (pw_or1 (pt_cmpR op_eq (ge_call G__law_draw (hr.mono (by first | decide | omega)) (by rfl) m__law_draw k__law_draw b__law_draw .nil pass0 (pa_cons (pv 0) (pa_cons pe_int pa_nil))) pe_int (nomark _)))))) (pss_one (ps_ret (pv 2))) pss_nil)
      (pss_cons (ps_set (i := 3) sc_law_replaced.nd rfl (Or.inl rfl) (pe_op op_add pe_int (ge_call G__law_draw (hr.mono (by first | decide | omega)) (by rfl) m__law_draw k__law_draw b__law_draw .nil pass0 (pa_cons (pv 0) (pa_cons (pe_op op_sub (pe_callB call_len_seq (by rfl) m_len (by decide +kernel) (pa_cons (pv 1) pa_nil)) pe_int) pa_nil)))))
      (pss_one (ps_ret (pe_op op_catS (pe_op op_catS (pe_slice sl_tupS (pv 1) po_none (po_some (pv 3))) (pe_tup (pa_cons (ge_call G__law_replaced (hr.mono (by first | decide | omega)) (by rfl) m__law_replaced k__law_replaced b__law_replaced .nil pass0 (pa_cons (pv 0) (pa_cons (pe_ix ix_tup (pv 1) (pv 3) (fun _ _ => rfl)) (pa_cons (pv 2) pa_nil)))) pa_nil))) (pe_slice sl_tupS (pv 1) (po_some (pe_op op_add (pv 3) pe_int)) po_none)))))), ?_⟩
    have odd : ∀ H', Dr p H H' → Q u H' := fun H' s => done u e H' s (Dx.but hP.chg s.but hu) be (ge.mono (by omega) (by omega))
    refine ⟨fun σ' H' => (∃ a xs ds, b = .tuple ds ∧ v = .ref a ∧ 2 ≤ ds.length ∧ SqT K H' a xs ∧ DxAll K p H' xs ds) ∧ Dr p H H' ∧ σ' = [some (.ref p), some v, some u, none], ?_, ?_⟩
    · obtain ⟨ty, hx, kb⟩ := isi_t (dx_sv b v hv (Nat.le_trans gb.bk (by omega)))
      refine ⟨_, rfl, _, _, _, _, _, rfl, .ty _, hx, kb, _, rfl, ?_⟩
      cases b with
      | tuple ds =>
        cases hv with
        | @tup a xs _ hs ha =>
          refine iteF ⟨_, rfl, a, _, rfl, .inr hs, _, _, rfl, rfl, _, rfl, ?_⟩
          refine ite2 (fun c => ⟨_, rfl, odd H (.refl _ _)⟩) (fun c => ?_)
          have c : ¬ ((xs.length : Int) < 2) := fun w => c (decide_eq_true w)
          refine ⟨_, rfl, p, 3, rfl, hP, by decide, by decide, fun H1 z d1 z0 z1 => ⟨rfl, _, rfl, ?_⟩⟩
          refine ite2 (fun c2 => ⟨_, rfl, odd H1 d1⟩) (fun c2 => ?_)
          exact ⟨⟨a, xs, ds, rfl, rfl, by rw [← ha.len]; omega, Chg.tup hP.chg d1.but hs, DxAll.but hP.chg d1.but ha⟩, d1, rfl⟩
      | none => exact iteT ⟨_, rfl, odd H (.refl _ _)⟩
      | bool _ => exact iteT ⟨_, rfl, odd H (.refl _ _)⟩
      | int _ => exact iteT ⟨_, rfl, odd H (.refl _ _)⟩
      | str _ => exact iteT ⟨_, rfl, odd H (.refl _ _)⟩
      | list _ => exact iteT ⟨_, rfl, odd H (.refl _ _)⟩
      | dict _ => exact iteT ⟨_, rfl, odd H (.refl _ _)⟩
    rintro _ H1 ⟨⟨a, xs, ds, rfl, rfl, l2, hs, ha⟩, d1, rfl⟩
    have P1 := d1.pen hP
    have xl := ha.len
    obtain ⟨gs, n0⟩ := gb.tup
    have dl : ds.length ≤ m := Nat.le_trans (Nat.le_trans (by rw [← skDs_len]; exact Sk.sizes_len _) (skDs_size ds)) gs.bk
    have hd : PyData.depthAll ds + 1 < d + 1 := hd
    refine ⟨_, rfl, _, rfl, a, _, rfl, .inr hs, _, _, rfl, rfl, p, (ds.length : Int) - 1, (by rw [xl]; rfl), P1, by omega, ?_, fun H2 r d2 r0 r1 => ?_⟩
    · have : ((ds.length : Int) - 1).natAbs < 10001 := by omega
      exact Nat.lt_trans this (by decide)
    obtain ⟨i, rfl⟩ : ∃ i : Nat, r = (i : Int) := ⟨r.toNat, by omega⟩
    refine ⟨1, _, rfl, rfl, ?_⟩
    have lt : i + 1 < ds.length := by omega
    have P2 := d2.pen P1
    have hs2 := Chg.tup P1.chg d2.but hs
    have ha2 := DxAll.but P1.chg d2.but ha
    have hu2 := Dx.but P1.chg d2.but (Dx.but hP.chg d1.but hu)
    have ge1 : ds[i + 1]? = some ds[i + 1] := List.getElem?_eq_getElem lt
    obtain ⟨w, hw, dw⟩ := DxAll.get ha2 ge1
    obtain ⟨gw, gl⟩ := gd_get gs ge1
    have i1 : (1 : Int) + (i : Int) = ((i + 1 : Nat) : Int) := by omega
    refine ⟨_, rfl, _, rfl, _, rfl, a, _, rfl, hs2, fun t1 H3 s3 h1 => ?_⟩
    rw [i1, cutV_take] at h1
    have hs3 := Same.seqT s3 hs2
    have P3 := P2.same s3
    refine ⟨_, rfl, _, rfl, _, rfl, a, _, _, w, rfl, rfl, hs3, (by rw [i1]; exact atI_nat hw), _, rfl, p, w, u, ds[i + 1], e, q, n - 1, ds[i + 1].bulk, rfl, P3, Dx.same s3 dw, Dx.same s3 hu2, be, ge, gw, by omega, ?_, fun x b' H4 d4 hx bb gb' => ⟨(by show 1 ≤ sizeLine; decide), fun t2 ht2 => ?_⟩⟩
    · have := depth_mem (List.getElem_mem lt)
      omega
    have n4 := same_new ht2 (.tup [x])
    have h14 := Same.seqT n4 (Chg.tup P3.chg d4.but h1)
    have lx : (xs.take (i + 1)).length = i + 1 := by rw [List.length_take]; omega
    have sz : ∀ k : Nat, k ≤ 20000 → k ≤ sizeLine := fun k h => Nat.le_trans h (by decide)
    refine ⟨t1, t2, _, _, rfl, rfl, h14, SqT.of upd_same, ?_, fun t3 H6 s6 h3 => ?_⟩
    · rw [lx]
      exact sz _ (by show i + 1 + 1 ≤ 20000; omega)
    have hs6 := Same.seqT (n4.trans s6) (Chg.tup P3.chg d4.but hs3)
    refine ⟨_, rfl, _, rfl, _, _, rfl, rfl, _, rfl, a, _, rfl, hs6, fun t4 H7 s7 h4 => ?_⟩
    have i2 : (1 : Int) + (i : Int) + 1 = ((i + 1 + 1 : Nat) : Int) := by omega
    rw [i2, cutV_drop] at h4
    refine ⟨t3, t4, _, _, rfl, rfl, Same.seqT s7 h3, h4, ?_, fun t5 H8 s8 h5 => ?_⟩
    · rw [List.length_append, lx, List.length_drop]
      exact sz _ (by show i + 1 + 1 + (xs.length - (i + 1 + 1)) ≤ 20000; omega)
    have s48 := n4.trans (s6.trans (s7.trans s8))
    have ha8 := DxAll.same s48 (DxAll.but P3.chg d4.but (DxAll.same s3 ha2))
    have c1 := (DxAll.cut (i + 1) ha8).1
    have c2 := (DxAll.cut (i + 1 + 1) ha8).2
    have all := (c1.app (.cons (Dx.same s48 hx) .nil)).app c2
    have eq : (ds.take (i + 1) ++ [b']) ++ ds.drop (i + 1 + 1) = ds.take (i + 1) ++ b' :: ds.drop (i + 1 + 1) := by rw [List.append_assoc]; rfl
    rw [eq] at all
    have ld : (ds.take (i + 1)).length = i + 1 := by rw [List.length_take]; omega
    refine done _ _ H8 (d1.trans (d2.trans ((Dr.same s3).trans (d4.trans (.same s48))))) (.tup h5 all) (Bd.tuple (i := i) (d := b') ?_ bb) ?_
    · rw [List.getElem?_append_right (by omega), ld, Nat.sub_self]; rfl
    · have g := (gds_set (k := 60) gs ge1 gb' (by omega) (by omega)).tup
      exact g.mono (by omega) (by omega)

end
end Vk06

namespace Vk06
open PySem PySem.Spec PyProof.Rows L2 Vx
section
variable {P : Program} {w : World} {K : PySem.W.Frag} {mg : Str → Option Value} {base : Heap}
def sp_law (K : PySem.W.Frag) : Sp := fun vs H Q _ => ∃ (a : Addr) (ns : List Int), vs = [.ref a] ∧ SqL K H a (ns.map V.int) ∧ ns.length ≤ 63 ∧ ∀ H', Q (.bl true) H'
theorem resD_shaped (r : Option (Option (List Int))) : SeqAt.shaped (Sk.resD r) = true := by
  match r with
  | none => decide +kernel
  | some none => decide +kernel
  | some (some z) =>
    show ((PyData.strOk "form" && (PyData.canLayAll0 (z.map PyData.int) && true)) && decide (max 0 (max (PyData.depthAll (z.map PyData.int) + 1) 0) + 1 ≤ 64)) = true
    rw [lay_ints, depth_ints]
    decide +kernel
/-- no size is in the way -/
def Rk (q : Int) (d : PyData) : Prop := Sk.res q (skD d) = (Sk.bad q (skD d) []).map some
theorem Rk.bd {q : Int} {d : PyData} (h : Bd q d) : Rk q d := by
  unfold Rk Sk.res
  cases c : Sk.bad q (skD d) [] with
  | none => exact absurd c (h [])
  | some z => rfl
theorem Rk.fml {q : Int} {F : Fml} (o : F.ok) (l : F.lok q) (h1 : F.lvs ≤ 8) (h2 : F.tps ≤ 16) (h3 : F.dep ≤ 12) : Rk q F.d := by
  unfold Rk
  rw [fml_skD, res_ok o l, sk_bad [] o l, if_neg (by omega)]
  rfl

abbrev s_law : Stmt := top 25
theorem sc_law : FnScope ["script", "pen", "turn", "q", "value", "k", "before", "path", "due"] ["script"] (defScope s_law) := ⟨rfl, rfl, rfl, by decide +kernel, rfl, by decide +kernel, by decide +kernel⟩
theorem ok_law {f : Addr} {fd : FuncData} (F : Fun K "law" "law" s_law f fd) (m_range : mg "range" = none) (m_repr : mg "repr" = none) (c__law_pen : Cal P w K mg base "_law_pen" 1 ["script"] (sp_law_pen K)) (c__law_modulus : Cal P w K mg base "_law_modulus" 3 ["pen"] (sp_law_modulus K)) (c__law_some_formula : Cal P w K mg base "_law_some_formula" 14 ["pen", "q", "leaves"] (sp_law_some_formula K)) (c__law_due : Cal P w K mg base "_law_due" 22 ["value", "q", "path"] (sp_law_due K 20)) (c__law_draw : Cal P w K mg base "_law_draw" 2 ["pen", "many"] (sp_law_draw K)) (c__law_replaced : Cal P w K mg base "_law_replaced" 23 ["pen", "value", "odd"] (sp_law_replaced K 20)) (c__law_odd : Cal P w K mg base "_law_odd" 3 ["pen", "q"] (sp_law_odd K)) (c_formula_error : Cal P w K mg base "formula_error" 4 ["value", "modulus"] (sp_formula_error K)) : FnG P w K mg base CX0 24 f fd ["script"] (sp_law K) := by
  obtain ⟨f__law_pen, fd__law_pen, G__law_pen, m__law_pen, k__law_pen, b__law_pen⟩ := c__law_pen.ex
  obtain ⟨f__law_modulus, fd__law_modulus, G__law_modulus, m__law_modulus, k__law_modulus, b__law_modulus⟩ := c__law_modulus.ex
  obtain ⟨f__law_some_formula, fd__law_some_formula, G__law_some_formula, m__law_some_formula, k__law_some_formula, b__law_some_formula⟩ := c__law_some_formula.ex
  obtain ⟨f__law_due, fd__law_due, G__law_due, m__law_due, k__law_due, b__law_due⟩ := c__law_due.ex
  obtain ⟨f__law_draw, fd__law_draw, G__law_draw, m__law_draw, k__law_draw, b__law_draw⟩ := c__law_draw.ex
  obtain ⟨f__law_replaced, fd__law_replaced, G__law_replaced, m__law_replaced, k__law_replaced, b__law_replaced⟩ := c__law_replaced.ex
  obtain ⟨f__law_odd, fd__law_odd, G__law_odd, m__law_odd, k__law_odd, b__law_odd⟩ := c__law_odd.ex
  obtain ⟨f_formula_error, fd_formula_error, G_formula_error, m_formula_error, k_formula_error, b_formula_error⟩ := c_formula_error.ex
  refine okG F sc_law (fun vs H Q E h => ?_) (fun cdv A' o s H vs Q E hr h => ?_)
  · obtain ⟨a, ns, rfl, _⟩ := h
    rfl
  obtain ⟨a, ns, rfl, hS, hlen, done⟩ := h
  refine ⟨_, (pss_cons (ps_set (i := 1) sc_law.nd rfl (Or.inl rfl) (ge_call G__law_pen (hr.mono (by first | decide | omega)) (by rfl) m__law_pen k__law_pen b__law_pen .nil pass0 (pa_cons (pv 0) pa_nil)))
      (pss_cons (ps_for PassesOwn.never rfl (pi_range1 rfl m_range (pa_cons pe_int pa_nil)) (pg_name (i := 2) sc_law.nd rfl (Or.inl rfl)) (pss_cons (ps_set (i := 3) sc_law.nd rfl (Or.inl rfl) (ge_call G__law_modulus (hr.mono (by first | decide | omega)) (by rfl) m__law_modulus k__law_modulus b__law_modulus .nil pass0 (pa_cons (pv 1) pa_nil)))
      (pss_cons (ps_set (i := 4) sc_law.nd rfl (Or.inl rfl) (ge_call G__law_some_formula (hr.mono (by first | decide | omega)) (by rfl) m__law_some_formula k__law_some_formula b__law_some_formula .nil pass0 (pa_cons (pv 1) (pa_cons (pv 3) (pa_cons pe_int pa_nil)))))
      (pss_cons (ps_for PassesOwn.never rfl (pi_range1 rfl m_range (pa_cons (ge_call G__law_draw (hr.mono (by first | decide | omega)) (by rfl) m__law_draw k__law_draw b__law_draw .nil pass0 (pa_cons (pv 1) (pa_cons pe_int pa_nil))) pa_nil)) (pg_name (i := 5) sc_law.nd rfl (Or.inl rfl)) (pss_one (ps_set (i := 4) sc_law.nd rfl (Or.inl rfl) (ge_call G__law_replaced (hr.mono (by first | decide | omega)) (by rfl) m__law_replaced k__law_replaced b__law_replaced .nil pass0 (pa_cons (pv 1) (pa_cons (pv 4) (pa_cons (ge_call G__law_odd (hr.mono (by first | decide | omega)) (by rfl) m__law_odd k__law_odd b__law_odd .nil pass0 (pa_cons (pv 1) (pa_cons (pv 3) pa_nil))) pa_nil)))))))
      (pss_cons (ps_set (i := 6) sc_law.nd rfl (Or.inl rfl) (pe_callB (call_reprX hr.g hr.r.units) (by rfl) m_repr (by decide +kernel) (pa_cons (pv 4) pa_nil)))
      (pss_cons (ps_set (i := 7) sc_law.nd rfl (Or.inl rfl) (ge_call G__law_due (hr.mono (by first | decide | omega)) (by rfl) m__law_due k__law_due b__law_due .nil pass0 (pa_cons (pv 4) (pa_cons (pv 3) (pa_cons (pe_tup pa_nil) pa_nil)))))
      (pss_cons (ps_set (i := 8) sc_law.nd rfl (Or.inl rfl) (pe_cut (pe_ifExp (pt_cmpR op_isN (pv 7) pe_non (nomark _)) pe_non (pe_tup (pa_cons pe_str (pa_cons (pv 7) pa_nil))))))
      (pss_one (ps_if (PW.pt (pw_or (pt_cmpR (op_neD hr.r.units) (ge_call G_formula_error (hr.mono (by first | decide | omega)) (by rfl) m_formula_error k_formula_error b_formula_error .nil pass0 (pa_cons (pv 4) (pa_cons (pv 3) pa_nil))) (pv 8) (nomark _)) (pw_or1 (pt_cmpR op_ne (pe_callB (call_reprX hr.g hr.r.units) (by rfl) m_repr (by decide +kernel) (pa_cons (pv 4) pa_nil)) (pv 6) (nomark _))))) (pss_one (ps_ret pe_bl)) pss_nil)))))))))
      (pss_one (ps_ret pe_bl)))), ?_⟩
  refine ⟨_, rfl, a, ns, rfl, hS, fun H0 p s0 hp0 hP => ?_⟩
  have neS : ∀ z : Str, (!decide (V.str z = V.str z)) = false := fun z => by rw [decide_eq_true rfl]; rfl
  refine ⟨8, rfl, by decide, by decide, ?_⟩
  refine for_range (n := 8) (fun _ σ' H' => Dr p H0 H' ∧ ∃ x2 x3 x4 x5 x6 x7 x8, σ' = [some (.ref a), some (.ref p), x2, x3, x4, x5, x6, x7, x8]) ⟨.refl _ _, _, _, _, _, _, _, _, rfl⟩ ?_ ?_
  · rintro i σ' H1 _ ⟨d0, x2, x3, x4, x5, x6, x7, x8, rfl⟩
    have P1 := d0.pen hP
    refine ⟨_, rfl, p, rfl, P1, fun H2 q d1 q0 q1 => ?_⟩
    have P2 := d1.pen P1
    refine ⟨_, rfl, _, rfl, p, q, 4, rfl, P2, q0, q1, by omega, by omega, fun v F' H3 d2 hF hok hlok hl hd => ?_⟩
    have P3 := d2.pen P2
    refine ⟨_, rfl, p, 3, rfl, P3, by decide, by decide, fun H4 r d3 r0 r1 => ?_⟩
    obtain ⟨c, rfl⟩ : ∃ c : Nat, r = (c : Int) := ⟨r.toNat, by omega⟩
    have b62 : (1001 : Int) < 2 ^ 62 := by decide
    have P4 := d3.pen P3
    have hF4 := dp_but P3.chg d3.but _ _ F'.noL hF
    refine ⟨c, rfl, by omega, by omega, ?_⟩
    refine for_range (n := c) (fun j σ' H' => Dr p H4 H' ∧ ∃ v' d x5, Dx K p H' v' d ∧ Gd d (7 + 3 * j) (90 + 60 * j) ∧ Rk q d ∧ σ' = [some (.ref a), some (.ref p), some (.int (0 + (i : Int))), some (.int q), some v', x5, x6, x7, x8]) ⟨.refl _ _, v, F'.d, _, Dx.of p _ _ F'.noL hF4, (gd_fml q1 F' hok hlok).mono (by omega) (by omega), Rk.fml hok hlok (by omega) (by omega) (by omega), rfl⟩ ?_ ?_
    · rintro j σ' H5 hj ⟨d4, v', d, x5', hv, gd, rk, rfl⟩
      have P5 := d4.pen P4
      refine ⟨_, rfl, _, rfl, _, rfl, _, rfl, p, q, rfl, P5, q0, q1, fun u e H6 d5 hu be ge => ?_⟩
      refine ⟨p, v', u, d, e, q, 7 + 3 * j, 90 + 60 * j, rfl, d5.pen P5, Dx.but P5.chg d5.but hv, hu, be, ge, gd, by omega, ?_, fun x b' H7 d6 hx bb gb => ?_⟩
      · have := gd.dp
        omega
      exact ⟨d4.trans (d5.trans d6), x, b', _, hx, gb.mono (by omega) (by omega), Rk.bd bb, rfl⟩
    rintro σ' H5 ⟨d4, v', d, x5', hv, gd, rk, rfl⟩
    have P5 := d4.pen P4
    have gd2 : Gd d 19 1000 := gd.mono (by omega) (by omega)
    refine ⟨_, rfl, p, v', d, rfl, hv, gd2.mono (by decide) (by decide), ?_⟩
    refine ⟨_, rfl, _, rfl, Nat.zero_le _, fun e0 he0 => ?_⟩
    have s1 := same_new he0 (.tup [])
    refine ⟨v', d, q, e0, [], p, rfl, Dx.same s1 hv, SqT.of upd_same, Nat.lt_succ_of_le gd2.dp, Nat.le_trans gd2.bk (by decide), ?_, fun x H6 s6 hx => ?_⟩
    · have := gd2.dp
      show 0 + d.depth ≤ 1000
      omega
    refine ⟨fun x' H' => Same H6 H' ∧ Dp K H' x' (Sk.resD ((Sk.bad q (skD d) []).map some)), ?_, ?_⟩
    · cases c : Sk.bad q (skD d) [] with
      | none =>
        rw [c] at hx
        obtain rfl : x = .non := hx
        refine ⟨_, rfl, rfl, _, rfl, ?_⟩
        rw [decide_eq_true rfl]
        exact iteT ⟨Same.refl _, .non⟩
      | some z =>
        rw [c] at hx
        obtain ⟨a7, rfl, h7⟩ := hx
        refine ⟨_, rfl, rfl, _, rfl, ?_⟩
        rw [decide_eq_false (fun z => nomatch z)]
        refine iteF ⟨_, rfl, (by show 2 ≤ sizeLine; decide), fun t ht => ?_⟩
        have n := same_new ht (.tup [V.str "form", .ref a7])
        exact ⟨n, .tup (SqT.of upd_same) (.cons (.str _) (.cons (.tup (Same.seqT n h7) (dp_ints K _ z)) .nil))⟩
    rintro x' H7 ⟨s7, due⟩
    have s17 := s1.trans (s6.trans s7)
    have hv7 := Dx.same s17 hv
    refine ⟨_, rfl, _, rfl, v', skD d, q, rfl, dx_sv d v' hv7 (Nat.le_trans gd2.bk (by decide)), Nat.le_trans (skD_size d) ?_, fun x2 H8 s8 hx2 => ?_⟩
    · have : d.bulk ≤ 90 + 60 * c := gd.bk
      omega
    rw [rk] at hx2
    have shp := resD_shaped ((Sk.bad q (skD d) []).map some)
    refine ⟨_, rfl, _, _, hx2, (dp_same s8 _ _ due), shp, shp, _, rfl, ne_same shp ?_⟩
    have hv8 := Dx.same s8 hv7
    refine ⟨_, rfl, p, v', d, rfl, hv8, gd2.mono (by decide) (by decide), _, rfl, ?_⟩
    refine ⟨rfl, _, rfl, ?_⟩
    rw [neS]
    exact iteF ⟨d0.trans (d1.trans (d2.trans (d3.trans (d4.trans (.same (s17.trans s8)))))), _, _, _, _, _, _, _, rfl⟩
  · rintro σ' H' ⟨_, x2, x3, x4, x5, x6, x7, x8, rfl⟩
    exact done H'

end
end Vk06

namespace Vk06
open PySem PySem.Spec PyProof.Rows L2 Vx
theorem all_mk {l : PySem.W.OpenLaw} {w : World} {K : PySem.W.Frag} {h : Heap} {mg : Str → Option Value} {fa f0 f1 f2 f3 f4 f5 f6 f7 f8 f9 f10 f11 f12 f13 f14 f15 f16 f17 : Addr} (X : K.In h) (G : h.Ns mainGlobals mg) (hfa : mg "law" = some (.ref fa))
    {od0 an0 od1 an1 od2 an2 od3 an3 od4 an4 od5 an5 od6 an6 od7 an7 od8 an8 od9 an9 od10 an10 od11 an11 od12 an12 od13 an13 od14 an14 od15 an15 od16 an16 od17 an17 : Option Addr} {sl0 sl1 sl2 sl3 sl4 sl5 sl6 sl7 sl8 sl9 sl10 sl11 sl12 sl13 sl14 sl15 sl16 sl17 : Array (Option Value)} {oc0 kV0 dc0 pm0 cd0 ct0 oc1 kV1 dc1 pm1 cd1 ct1 oc2 kV2 dc2 pm2 cd2 ct2 oc3 kV3 dc3 pm3 cd3 ct3 oc4 kV4 dc4 pm4 cd4 ct4 oc5 kV5 dc5 pm5 cd5 ct5 oc6 kV6 dc6 pm6 cd6 ct6 oc7 kV7 dc7 pm7 cd7 ct7 oc8 kV8 dc8 pm8 cd8 ct8 oc9 kV9 dc9 pm9 cd9 ct9 oc10 kV10 dc10 pm10 cd10 ct10 oc11 kV11 dc11 pm11 cd11 ct11 oc12 kV12 dc12 pm12 cd12 ct12 oc13 kV13 dc13 pm13 cd13 ct13 oc14 kV14 dc14 pm14 cd14 ct14 oc15 kV15 dc15 pm15 cd15 ct15 oc16 kV16 dc16 pm16 cd16 ct16 oc17 kV17 dc17 pm17 cd17 ct17 : Value} {ad_OPERAND_COUNTS : Addr} {nn_OPERAND_COUNTS : Nat} {hh0_OPERAND_COUNTS : Int} {ka0_OPERAND_COUNTS va0_OPERAND_COUNTS : Tok} {hh1_OPERAND_COUNTS : Int} {ka1_OPERAND_COUNTS va1_OPERAND_COUNTS : Tok} {hh2_OPERAND_COUNTS : Int} {ka2_OPERAND_COUNTS va2_OPERAND_COUNTS : Tok} {hh3_OPERAND_COUNTS : Int} {ka3_OPERAND_COUNTS va3_OPERAND_COUNTS : Tok} {hh4_OPERAND_COUNTS : Int} {ka4_OPERAND_COUNTS va4_OPERAND_COUNTS : Tok} {hh5_OPERAND_COUNTS : Int} {ka5_OPERAND_COUNTS va5_OPERAND_COUNTS : Tok} {tk_LETTERS : Tok} {tk_MAX_LETTERS : Tok} {tk_MAX_LEAVES : Tok} {tk_MAX_TUPLES : Tok} {tk_MAX_DEPTH : Tok}
    (a0 : PySem.W.nsIn K mainGlobals "is_integer" = some (some (.ref f0))) (l0 : K.lookup f0 = some ⟨oc0, od0, .func (PySem.W.fnOf "is_integer" "is_integer" (defArgs s_is_integer) (defBody s_is_integer) (defScope s_is_integer) .none kV0 dc0 pm0 an0 cd0 ct0), sl0⟩) (c0 : PySem.W.codeIn K cd0 "is_integer" = true) (k0 : PySem.W.keepIn K (.ref f0) = true)
    (a1 : PySem.W.nsIn K mainGlobals "is_residue" = some (some (.ref f1))) (l1 : K.lookup f1 = some ⟨oc1, od1, .func (PySem.W.fnOf "is_residue" "is_residue" (defArgs s_is_residue) (defBody s_is_residue) (defScope s_is_residue) .none kV1 dc1 pm1 an1 cd1 ct1), sl1⟩) (c1 : PySem.W.codeIn K cd1 "is_residue" = true) (k1 : PySem.W.keepIn K (.ref f1) = true)
    (a2 : PySem.W.nsIn K mainGlobals "is_variable" = some (some (.ref f2))) (l2 : K.lookup f2 = some ⟨oc2, od2, .func (PySem.W.fnOf "is_variable" "is_variable" (defArgs s_is_variable) (defBody s_is_variable) (defScope s_is_variable) .none kV2 dc2 pm2 an2 cd2 ct2), sl2⟩) (c2 : PySem.W.codeIn K cd2 "is_variable" = true) (k2 : PySem.W.keepIn K (.ref f2) = true)
    (a3 : PySem.W.nsIn K mainGlobals "formula_error" = some (some (.ref f3))) (l3 : K.lookup f3 = some ⟨oc3, od3, .func (PySem.W.fnOf "formula_error" "formula_error" (defArgs s_formula_error) (defBody s_formula_error) (defScope s_formula_error) .none kV3 dc3 pm3 an3 cd3 ct3), sl3⟩) (c3 : PySem.W.codeIn K cd3 "formula_error" = true) (k3 : PySem.W.keepIn K (.ref f3) = true)
    (a4 : PySem.W.nsIn K mainGlobals "_is_built" = some (some (.ref f4))) (l4 : K.lookup f4 = some ⟨oc4, od4, .func (PySem.W.fnOf "_is_built" "_is_built" (defArgs s_is_built) (defBody s_is_built) (defScope s_is_built) .none kV4 dc4 pm4 an4 cd4 ct4), sl4⟩) (c4 : PySem.W.codeIn K cd4 "_is_built" = true) (k4 : PySem.W.keepIn K (.ref f4) = true)
    (a5 : PySem.W.nsIn K mainGlobals "_is_operation" = some (some (.ref f5))) (l5 : K.lookup f5 = some ⟨oc5, od5, .func (PySem.W.fnOf "_is_operation" "_is_operation" (defArgs s_is_operation) (defBody s_is_operation) (defScope s_is_operation) .none kV5 dc5 pm5 an5 cd5 ct5), sl5⟩) (c5 : PySem.W.codeIn K cd5 "_is_operation" = true) (k5 : PySem.W.keepIn K (.ref f5) = true)
    (a6 : PySem.W.nsIn K mainGlobals "_law_pen" = some (some (.ref f6))) (l6 : K.lookup f6 = some ⟨oc6, od6, .func (PySem.W.fnOf "_law_pen" "_law_pen" (defArgs s_law_pen) (defBody s_law_pen) (defScope s_law_pen) .none kV6 dc6 pm6 an6 cd6 ct6), sl6⟩) (c6 : PySem.W.codeIn K cd6 "_law_pen" = true) (k6 : PySem.W.keepIn K (.ref f6) = true)
    (a7 : PySem.W.nsIn K mainGlobals "_law_fresh" = some (some (.ref f7))) (l7 : K.lookup f7 = some ⟨oc7, od7, .func (PySem.W.fnOf "_law_fresh" "_law_fresh" (defArgs s_law_fresh) (defBody s_law_fresh) (defScope s_law_fresh) .none kV7 dc7 pm7 an7 cd7 ct7), sl7⟩) (c7 : PySem.W.codeIn K cd7 "_law_fresh" = true) (k7 : PySem.W.keepIn K (.ref f7) = true)
    (a8 : PySem.W.nsIn K mainGlobals "_law_draw" = some (some (.ref f8))) (l8 : K.lookup f8 = some ⟨oc8, od8, .func (PySem.W.fnOf "_law_draw" "_law_draw" (defArgs s_law_draw) (defBody s_law_draw) (defScope s_law_draw) .none kV8 dc8 pm8 an8 cd8 ct8), sl8⟩) (c8 : PySem.W.codeIn K cd8 "_law_draw" = true) (k8 : PySem.W.keepIn K (.ref f8) = true)
    (a9 : PySem.W.nsIn K mainGlobals "_law_modulus" = some (some (.ref f9))) (l9 : K.lookup f9 = some ⟨oc9, od9, .func (PySem.W.fnOf "_law_modulus" "_law_modulus" (defArgs s_law_modulus) (defBody s_law_modulus) (defScope s_law_modulus) .none kV9 dc9 pm9 an9 cd9 ct9), sl9⟩) (c9 : PySem.W.codeIn K cd9 "_law_modulus" = true) (k9 : PySem.W.keepIn K (.ref f9) = true)
    (a10 : PySem.W.nsIn K mainGlobals "_law_leaf" = some (some (.ref f10))) (l10 : K.lookup f10 = some ⟨oc10, od10, .func (PySem.W.fnOf "_law_leaf" "_law_leaf" (defArgs s_law_leaf) (defBody s_law_leaf) (defScope s_law_leaf) .none kV10 dc10 pm10 an10 cd10 ct10), sl10⟩) (c10 : PySem.W.codeIn K cd10 "_law_leaf" = true) (k10 : PySem.W.keepIn K (.ref f10) = true)
    (a11 : PySem.W.nsIn K mainGlobals "_law_formula" = some (some (.ref f11))) (l11 : K.lookup f11 = some ⟨oc11, od11, .func (PySem.W.fnOf "_law_formula" "_law_formula" (defArgs s_law_formula) (defBody s_law_formula) (defScope s_law_formula) .none kV11 dc11 pm11 an11 cd11 ct11), sl11⟩) (c11 : PySem.W.codeIn K cd11 "_law_formula" = true) (k11 : PySem.W.keepIn K (.ref f11) = true)
    (a12 : PySem.W.nsIn K mainGlobals "_law_some_formula" = some (some (.ref f12))) (l12 : K.lookup f12 = some ⟨oc12, od12, .func (PySem.W.fnOf "_law_some_formula" "_law_some_formula" (defArgs s_law_some_formula) (defBody s_law_some_formula) (defScope s_law_some_formula) .none kV12 dc12 pm12 an12 cd12 ct12), sl12⟩) (c12 : PySem.W.codeIn K cd12 "_law_some_formula" = true) (k12 : PySem.W.keepIn K (.ref f12) = true)
    (a13 : PySem.W.nsIn K mainGlobals "_law_is_leaf" = some (some (.ref f13))) (l13 : K.lookup f13 = some ⟨oc13, od13, .func (PySem.W.fnOf "_law_is_leaf" "_law_is_leaf" (defArgs s_law_is_leaf) (defBody s_law_is_leaf) (defScope s_law_is_leaf) .none kV13 dc13 pm13 an13 cd13 ct13), sl13⟩) (c13 : PySem.W.codeIn K cd13 "_law_is_leaf" = true) (k13 : PySem.W.keepIn K (.ref f13) = true)
    (a14 : PySem.W.nsIn K mainGlobals "_law_due" = some (some (.ref f14))) (l14 : K.lookup f14 = some ⟨oc14, od14, .func (PySem.W.fnOf "_law_due" "_law_due" (defArgs s_law_due) (defBody s_law_due) (defScope s_law_due) .none kV14 dc14 pm14 an14 cd14 ct14), sl14⟩) (c14 : PySem.W.codeIn K cd14 "_law_due" = true) (k14 : PySem.W.keepIn K (.ref f14) = true)
    (a15 : PySem.W.nsIn K mainGlobals "_law_odd" = some (some (.ref f15))) (l15 : K.lookup f15 = some ⟨oc15, od15, .func (PySem.W.fnOf "_law_odd" "_law_odd" (defArgs s_law_odd) (defBody s_law_odd) (defScope s_law_odd) .none kV15 dc15 pm15 an15 cd15 ct15), sl15⟩) (c15 : PySem.W.codeIn K cd15 "_law_odd" = true) (k15 : PySem.W.keepIn K (.ref f15) = true)
    (a16 : PySem.W.nsIn K mainGlobals "_law_replaced" = some (some (.ref f16))) (l16 : K.lookup f16 = some ⟨oc16, od16, .func (PySem.W.fnOf "_law_replaced" "_law_replaced" (defArgs s_law_replaced) (defBody s_law_replaced) (defScope s_law_replaced) .none kV16 dc16 pm16 an16 cd16 ct16), sl16⟩) (c16 : PySem.W.codeIn K cd16 "_law_replaced" = true) (k16 : PySem.W.keepIn K (.ref f16) = true)
    (a17 : PySem.W.nsIn K mainGlobals "law" = some (some (.ref f17))) (l17 : K.lookup f17 = some ⟨oc17, od17, .func (PySem.W.fnOf "law" "law" (defArgs s_law) (defBody s_law) (defScope s_law) .none kV17 dc17 pm17 an17 cd17 ct17), sl17⟩) (c17 : PySem.W.codeIn K cd17 "law" = true) (k17 : PySem.W.keepIn K (.ref f17) = true)
    (z0 : PySem.W.nsIn K mainGlobals "isinstance" = some none)
    (z1 : PySem.W.nsIn K mainGlobals "int" = some none)
    (z2 : PySem.W.nsIn K mainGlobals "bool" = some none)
    (z3 : PySem.W.nsIn K mainGlobals "all" = some none)
    (z4 : PySem.W.nsIn K mainGlobals "str" = some none)
    (z5 : PySem.W.nsIn K mainGlobals "len" = some none)
    (z6 : PySem.W.nsIn K mainGlobals "tuple" = some none)
    (z7 : PySem.W.nsIn K mainGlobals "max" = some none)
    (z8 : PySem.W.nsIn K mainGlobals "reversed" = some none)
    (z9 : PySem.W.nsIn K mainGlobals "range" = some none)
    (z10 : PySem.W.nsIn K mainGlobals "list" = some none)
    (z11 : PySem.W.nsIn K mainGlobals "repr" = some none)
    (gc_OPERAND_COUNTS : PySem.W.nsIn K mainGlobals "OPERAND_COUNTS" = some (some (.ref ad_OPERAND_COUNTS)))
    (ld_OPERAND_COUNTS : K.lookup ad_OPERAND_COUNTS = some ⟨.type "dict", none, .dict #[⟨hh0_OPERAND_COUNTS, .str "plus" ka0_OPERAND_COUNTS, .int 2 va0_OPERAND_COUNTS⟩, ⟨hh1_OPERAND_COUNTS, .str "minus" ka1_OPERAND_COUNTS, .int 2 va1_OPERAND_COUNTS⟩, ⟨hh2_OPERAND_COUNTS, .str "times" ka2_OPERAND_COUNTS, .int 2 va2_OPERAND_COUNTS⟩, ⟨hh3_OPERAND_COUNTS, .str "not" ka3_OPERAND_COUNTS, .int 1 va3_OPERAND_COUNTS⟩, ⟨hh4_OPERAND_COUNTS, .str "and" ka4_OPERAND_COUNTS, .int 2 va4_OPERAND_COUNTS⟩, ⟨hh5_OPERAND_COUNTS, .str "or" ka5_OPERAND_COUNTS, .int 2 va5_OPERAND_COUNTS⟩] nn_OPERAND_COUNTS, #[]⟩)
    (kl_OPERAND_COUNTS : PySem.W.KeysLit w.params [⟨hh0_OPERAND_COUNTS, .str "plus" ka0_OPERAND_COUNTS, .int 2 va0_OPERAND_COUNTS⟩, ⟨hh1_OPERAND_COUNTS, .str "minus" ka1_OPERAND_COUNTS, .int 2 va1_OPERAND_COUNTS⟩, ⟨hh2_OPERAND_COUNTS, .str "times" ka2_OPERAND_COUNTS, .int 2 va2_OPERAND_COUNTS⟩, ⟨hh3_OPERAND_COUNTS, .str "not" ka3_OPERAND_COUNTS, .int 1 va3_OPERAND_COUNTS⟩, ⟨hh4_OPERAND_COUNTS, .str "and" ka4_OPERAND_COUNTS, .int 2 va4_OPERAND_COUNTS⟩, ⟨hh5_OPERAND_COUNTS, .str "or" ka5_OPERAND_COUNTS, .int 2 va5_OPERAND_COUNTS⟩])
    (ns_OPERAND_COUNTS : (ad_OPERAND_COUNTS == sysModules) = false)
    (gc_LETTERS : PySem.W.nsIn K mainGlobals "LETTERS" = some (some (.str "abcdefghijklmnopqrstuvwxyz" tk_LETTERS)))
    (gc_MAX_LETTERS : PySem.W.nsIn K mainGlobals "MAX_LETTERS" = some (some (.int 6 tk_MAX_LETTERS)))
    (gc_MAX_LEAVES : PySem.W.nsIn K mainGlobals "MAX_LEAVES" = some (some (.int 8 tk_MAX_LEAVES)))
    (gc_MAX_TUPLES : PySem.W.nsIn K mainGlobals "MAX_TUPLES" = some (some (.int 16 tk_MAX_TUPLES)))
    (gc_MAX_DEPTH : PySem.W.nsIn K mainGlobals "MAX_DEPTH" = some (some (.int 12 tk_MAX_DEPTH))) :
    ∃ fd : FuncData, (∀ (s : Shared) (v : Value), BindsTo s fd ⟨[v], []⟩ [("script", v)]) ∧ ∀ base : Heap, K.In base → base.Ns mainGlobals mg → FnG l.prog w K mg base CX0 24 fa fd ["script"] (sp_law K) := by
  have e := hfa.symm.trans (PySem.W.mg_of X G a17)
  cases e
  have m_isinstance := PySem.W.mg_none_of X G z0
  have m_int := PySem.W.mg_none_of X G z1
  have m_bool := PySem.W.mg_none_of X G z2
  have m_all := PySem.W.mg_none_of X G z3
  have m_str := PySem.W.mg_none_of X G z4
  have m_len := PySem.W.mg_none_of X G z5
  have m_tuple := PySem.W.mg_none_of X G z6
  have m_max := PySem.W.mg_none_of X G z7
  have m_reversed := PySem.W.mg_none_of X G z8
  have m_range := PySem.W.mg_none_of X G z9
  have m_list := PySem.W.mg_none_of X G z10
  have m_repr := PySem.W.mg_none_of X G z11
  have h_OPERAND_COUNTS : KTab K w mg "OPERAND_COUNTS" [("plus", 2), ("minus", 2), ("times", 2), ("not", 1), ("and", 2), ("or", 2)] := ⟨ad_OPERAND_COUNTS, _, _, PySem.W.mg_of X G gc_OPERAND_COUNTS, ld_OPERAND_COUNTS, kl_OPERAND_COUNTS, ns_OPERAND_COUNTS, .cons ⟨⟨_, rfl⟩, _, rfl⟩ (.cons ⟨⟨_, rfl⟩, _, rfl⟩ (.cons ⟨⟨_, rfl⟩, _, rfl⟩ (.cons ⟨⟨_, rfl⟩, _, rfl⟩ (.cons ⟨⟨_, rfl⟩, _, rfl⟩ (.cons ⟨⟨_, rfl⟩, _, rfl⟩ (.nil))))))⟩
  have h_LETTERS : ∃ t, mg "LETTERS" = some (.str "abcdefghijklmnopqrstuvwxyz" t) := ⟨_, PySem.W.mg_of X G gc_LETTERS⟩
  have h_MAX_LETTERS : ∃ t, mg "MAX_LETTERS" = some (.int 6 t) := ⟨_, PySem.W.mg_of X G gc_MAX_LETTERS⟩
  have h_MAX_LEAVES : ∃ t, mg "MAX_LEAVES" = some (.int 8 t) := ⟨_, PySem.W.mg_of X G gc_MAX_LEAVES⟩
  have h_MAX_TUPLES : ∃ t, mg "MAX_TUPLES" = some (.int 16 t) := ⟨_, PySem.W.mg_of X G gc_MAX_TUPLES⟩
  have h_MAX_DEPTH : ∃ t, mg "MAX_DEPTH" = some (.int 12 t) := ⟨_, PySem.W.mg_of X G gc_MAX_DEPTH⟩
  have F0 := fun_mk (st := s_is_integer) l0 c0 k0
  have b0 := F0.binds (ps := ["value"]) fun _ _ _ _ _ _ us hl => match us, hl with | [_], _ => rfl
  have F1 := fun_mk (st := s_is_residue) l1 c1 k1
  have b1 := F1.binds (ps := ["value", "modulus"]) fun _ _ _ _ _ _ us hl => match us, hl with | [_, _], _ => rfl
  have F2 := fun_mk (st := s_is_variable) l2 c2 k2
  have b2 := F2.binds (ps := ["value"]) fun _ _ _ _ _ _ us hl => match us, hl with | [_], _ => rfl
  have F3 := fun_mk (st := s_formula_error) l3 c3 k3
  have b3 := F3.binds (ps := ["value", "modulus"]) fun _ _ _ _ _ _ us hl => match us, hl with | [_, _], _ => rfl
  have F4 := fun_mk (st := s_is_built) l4 c4 k4
  have b4 := F4.binds (ps := ["part", "modulus"]) fun _ _ _ _ _ _ us hl => match us, hl with | [_, _], _ => rfl
  have F5 := fun_mk (st := s_is_operation) l5 c5 k5
  have b5 := F5.binds (ps := ["part"]) fun _ _ _ _ _ _ us hl => match us, hl with | [_], _ => rfl
  have F6 := fun_mk (st := s_law_pen) l6 c6 k6
  have b6 := F6.binds (ps := ["script"]) fun _ _ _ _ _ _ us hl => match us, hl with | [_], _ => rfl
  have F7 := fun_mk (st := s_law_fresh) l7 c7 k7
  have b7 := F7.binds (ps := ["pen"]) fun _ _ _ _ _ _ us hl => match us, hl with | [_], _ => rfl
  have F8 := fun_mk (st := s_law_draw) l8 c8 k8
  have b8 := F8.binds (ps := ["pen", "many"]) fun _ _ _ _ _ _ us hl => match us, hl with | [_, _], _ => rfl
  have F9 := fun_mk (st := s_law_modulus) l9 c9 k9
  have b9 := F9.binds (ps := ["pen"]) fun _ _ _ _ _ _ us hl => match us, hl with | [_], _ => rfl
  have F10 := fun_mk (st := s_law_leaf) l10 c10 k10
  have b10 := F10.binds (ps := ["pen", "q"]) fun _ _ _ _ _ _ us hl => match us, hl with | [_, _], _ => rfl
  have F11 := fun_mk (st := s_law_formula) l11 c11 k11
  have b11 := F11.binds (ps := ["pen", "q", "leaves", "nots"]) fun _ _ _ _ _ _ us hl => match us, hl with | [_, _, _, _], _ => rfl
  have F12 := fun_mk (st := s_law_some_formula) l12 c12 k12
  have b12 := F12.binds (ps := ["pen", "q", "leaves"]) fun _ _ _ _ _ _ us hl => match us, hl with | [_, _, _], _ => rfl
  have F13 := fun_mk (st := s_law_is_leaf) l13 c13 k13
  have b13 := F13.binds (ps := ["value", "q"]) fun _ _ _ _ _ _ us hl => match us, hl with | [_, _], _ => rfl
  have F14 := fun_mk (st := s_law_due) l14 c14 k14
  have b14 := F14.binds (ps := ["value", "q", "path"]) fun _ _ _ _ _ _ us hl => match us, hl with | [_, _, _], _ => rfl
  have F15 := fun_mk (st := s_law_odd) l15 c15 k15
  have b15 := F15.binds (ps := ["pen", "q"]) fun _ _ _ _ _ _ us hl => match us, hl with | [_, _], _ => rfl
  have F16 := fun_mk (st := s_law_replaced) l16 c16 k16
  have b16 := F16.binds (ps := ["pen", "value", "odd"]) fun _ _ _ _ _ _ us hl => match us, hl with | [_, _, _], _ => rfl
  have F17 := fun_mk (st := s_law) l17 c17 k17
  refine ⟨PySem.W.fnOf "law" "law" (defArgs s_law) (defBody s_law) (defScope s_law) .none kV17 dc17 pm17 an17 cd17 ct17, fun s v => .of_eq rfl, fun base KB NB => ?_⟩
  have G_is_integer : FnG l.prog w K mg base CX0 1 f0 _ ["value"] (sp_is_integer K) := ok_is_integer F0 m_isinstance m_int m_bool
  have c_is_integer : Cal l.prog w K mg base "is_integer" 1 ["value"] (sp_is_integer K) := ⟨f0, _, G_is_integer, PySem.W.mg_of X G a0, k0, b0⟩
  have G_is_residue : FnG l.prog w K mg base CX0 2 f1 _ ["value", "modulus"] (sp_is_residue K) := ok_is_residue F1 c_is_integer
  have c_is_residue : Cal l.prog w K mg base "is_residue" 2 ["value", "modulus"] (sp_is_residue K) := ⟨f1, _, G_is_residue, PySem.W.mg_of X G a1, k1, b1⟩
  have G_is_variable : FnG l.prog w K mg base CX0 1 f2 _ ["value"] (sp_is_variable K) := ok_is_variable F2 m_all m_isinstance m_str m_len h_MAX_LETTERS h_LETTERS
  have c_is_variable : Cal l.prog w K mg base "is_variable" 1 ["value"] (sp_is_variable K) := ⟨f2, _, G_is_variable, PySem.W.mg_of X G a2, k2, b2⟩
  have G_is_operation : FnG l.prog w K mg base CX0 1 f5 _ ["part"] (sp_is_operation K) := ok_is_operation F5 m_len m_isinstance m_str h_OPERAND_COUNTS
  have c__is_operation : Cal l.prog w K mg base "_is_operation" 1 ["part"] (sp_is_operation K) := ⟨f5, _, G_is_operation, PySem.W.mg_of X G a5, k5, b5⟩
  have G_is_built : FnG l.prog w K mg base CX0 3 f4 _ ["part", "modulus"] (sp_is_built K) := ok_is_built F4 m_isinstance m_tuple c__is_operation c_is_residue c_is_variable
  have c__is_built : Cal l.prog w K mg base "_is_built" 3 ["part", "modulus"] (sp_is_built K) := ⟨f4, _, G_is_built, PySem.W.mg_of X G a4, k4, b4⟩
  have G_formula_error : FnG l.prog w K mg base CX0 4 f3 _ ["value", "modulus"] (sp_formula_error K) := ok_formula_error F3 m_isinstance m_tuple m_max m_reversed m_range m_len c__is_built h_MAX_LEAVES h_MAX_TUPLES h_MAX_DEPTH
  have c_formula_error : Cal l.prog w K mg base "formula_error" 4 ["value", "modulus"] (sp_formula_error K) := ⟨f3, _, G_formula_error, PySem.W.mg_of X G a3, k3, b3⟩
  have G_law_pen : FnG l.prog w K mg base CX0 1 f6 _ ["script"] (sp_law_pen K) := ok_law_pen F6 m_list
  have c__law_pen : Cal l.prog w K mg base "_law_pen" 1 ["script"] (sp_law_pen K) := ⟨f6, _, G_law_pen, PySem.W.mg_of X G a6, k6, b6⟩
  have G_law_fresh : FnG l.prog w K mg base CX0 1 f7 _ ["pen"] (sp_law_fresh K) := ok_law_fresh F7 m_range m_len
  have c__law_fresh : Cal l.prog w K mg base "_law_fresh" 1 ["pen"] (sp_law_fresh K) := ⟨f7, _, G_law_fresh, PySem.W.mg_of X G a7, k7, b7⟩
  have G_law_draw : FnG l.prog w K mg base CX0 2 f8 _ ["pen", "many"] (sp_law_draw K) := ok_law_draw F8 c__law_fresh
  have c__law_draw : Cal l.prog w K mg base "_law_draw" 2 ["pen", "many"] (sp_law_draw K) := ⟨f8, _, G_law_draw, PySem.W.mg_of X G a8, k8, b8⟩
  have G_law_modulus : FnG l.prog w K mg base CX0 3 f9 _ ["pen"] (sp_law_modulus K) := ok_law_modulus F9 c__law_draw
  have c__law_modulus : Cal l.prog w K mg base "_law_modulus" 3 ["pen"] (sp_law_modulus K) := ⟨f9, _, G_law_modulus, PySem.W.mg_of X G a9, k9, b9⟩
  have G_law_leaf : FnG l.prog w K mg base CX0 3 f10 _ ["pen", "q"] (sp_law_leaf K) := ok_law_leaf F10 c__law_draw
  have c__law_leaf : Cal l.prog w K mg base "_law_leaf" 3 ["pen", "q"] (sp_law_leaf K) := ⟨f10, _, G_law_leaf, PySem.W.mg_of X G a10, k10, b10⟩
  have G_law_formula : FnG l.prog w K mg base CX0 13 f11 _ ["pen", "q", "leaves", "nots"] (sp_law_formula K 9) := ok_law_formula F11 c__law_leaf c__law_draw (PySem.W.mg_of X G a11) k11 b11  9
  have c__law_formula : Cal l.prog w K mg base "_law_formula" 13 ["pen", "q", "leaves", "nots"] (sp_law_formula K 9) := ⟨f11, _, G_law_formula, PySem.W.mg_of X G a11, k11, b11⟩
  have G_law_some_formula : FnG l.prog w K mg base CX0 14 f12 _ ["pen", "q", "leaves"] (sp_law_some_formula K) := ok_law_some_formula F12 c__law_formula c__law_draw
  have c__law_some_formula : Cal l.prog w K mg base "_law_some_formula" 14 ["pen", "q", "leaves"] (sp_law_some_formula K) := ⟨f12, _, G_law_some_formula, PySem.W.mg_of X G a12, k12, b12⟩
  have G_law_is_leaf : FnG l.prog w K mg base CX0 1 f13 _ ["value", "q"] (sp_law_is_leaf K) := ok_law_is_leaf F13 m_isinstance m_str m_int m_bool m_len
  have c__law_is_leaf : Cal l.prog w K mg base "_law_is_leaf" 1 ["value", "q"] (sp_law_is_leaf K) := ⟨f13, _, G_law_is_leaf, PySem.W.mg_of X G a13, k13, b13⟩
  have G_law_due : FnG l.prog w K mg base CX0 22 f14 _ ["value", "q", "path"] (sp_law_due K 20) := ok_law_due F14 m_range m_len m_isinstance m_tuple m_str c__law_is_leaf (PySem.W.mg_of X G a14) k14 b14  20
  have c__law_due : Cal l.prog w K mg base "_law_due" 22 ["value", "q", "path"] (sp_law_due K 20) := ⟨f14, _, G_law_due, PySem.W.mg_of X G a14, k14, b14⟩
  have G_law_odd : FnG l.prog w K mg base CX0 3 f15 _ ["pen", "q"] (sp_law_odd K) := ok_law_odd F15 m_len c__law_draw
  have c__law_odd : Cal l.prog w K mg base "_law_odd" 3 ["pen", "q"] (sp_law_odd K) := ⟨f15, _, G_law_odd, PySem.W.mg_of X G a15, k15, b15⟩
  have G_law_replaced : FnG l.prog w K mg base CX0 23 f16 _ ["pen", "value", "odd"] (sp_law_replaced K 20) := ok_law_replaced F16 m_isinstance m_tuple m_len c__law_draw (PySem.W.mg_of X G a16) k16 b16  20
  have c__law_replaced : Cal l.prog w K mg base "_law_replaced" 23 ["pen", "value", "odd"] (sp_law_replaced K 20) := ⟨f16, _, G_law_replaced, PySem.W.mg_of X G a16, k16, b16⟩
  exact ok_law F17 m_range m_repr c__law_pen c__law_modulus c__law_some_formula c__law_due c__law_draw c__law_replaced c__law_odd c_formula_error
theorem walk_end {l : PySem.W.OpenLaw} {q : Program} {loose : List Str} {XP : (Str → Option Value) → Heap → Prop} {YP : World → Heap → Prop} {d : DefRec} {K : Params → PySem.W.Frag} (hn : l.most = some 63) (hdf : d.params.defaults = []) (hY : ∀ (w : World) (h : Heap), YP w h → (K w.params).In h)
    (F : ∀ (w : World) (mg : Str → Option Value) (fa : Addr) (h : Heap), (K w.params).In h → h.Ns mainGlobals mg → mg d.name = some (.ref fa) →
      ∃ fd : FuncData, (∀ (s : Shared) (u : Value), BindsTo s fd ⟨[u], []⟩ [("script", u)]) ∧ ∀ base : Heap, (K w.params).In base → base.Ns mainGlobals mg → FnG l.prog w (K w.params) mg base CX0 24 fa fd ["script"] (sp_law (K w.params))) :
    PySem.W.WalkO q loose XP YP l.row.toRowW d [] (fun f vs => PySem.call f vs) :=
  walkG (n := 63) (k := 24) (x := "script") (sp := fun w => sp_law (K w.params)) hn (by decide) hdf ⟨rfl, by decide, by decide⟩ hY F fun _ _ a ns hl _ hS => ⟨a, ns, rfl, hS, hl, fun _ => rfl⟩

end Vk06

open PySem PySem.W PyProof.Rows in
set_option maxRecDepth 100000 in
set_option maxHeartbeats 0 in
theorem PySem.Challenge.cw_maskedlist_k06_formula_errors_holds : PySem.Challenge.rw_maskedlist_k06_formula_errors.Holds := by
  w_on; o_law; k_head; (case hw => w_witness2)
  k_fill
  refine Vk06.walk_end (l := PySem.Challenge.rw_maskedlist_k06_formula_errors) rfl rfl (fun w h Y => PySem.W.kIn_of Y) ?F
  case F =>
    intro w mg fa h KX G hmg
    refine' Vk06.all_mk KX G hmg ?a0 ?l0 ?c0 ?k0 ?a1 ?l1 ?c1 ?k1 ?a2 ?l2 ?c2 ?k2 ?a3 ?l3 ?c3 ?k3 ?a4 ?l4 ?c4 ?k4 ?a5 ?l5 ?c5 ?k5 ?a6 ?l6 ?c6 ?k6 ?a7 ?l7 ?c7 ?k7 ?a8 ?l8 ?c8 ?k8 ?a9 ?l9 ?c9 ?k9 ?a10 ?l10 ?c10 ?k10 ?a11 ?l11 ?c11 ?k11 ?a12 ?l12 ?c12 ?k12 ?a13 ?l13 ?c13 ?k13 ?a14 ?l14 ?c14 ?k14 ?a15 ?l15 ?c15 ?k15 ?a16 ?l16 ?c16 ?k16 ?a17 ?l17 ?c17 ?k17 ?z0 ?z1 ?z2 ?z3 ?z4 ?z5 ?z6 ?z7 ?z8 ?z9 ?z10 ?z11 ?gc_OPERAND_COUNTS ?ld_OPERAND_COUNTS ?kl_OPERAND_COUNTS ?ns_OPERAND_COUNTS ?gc_LETTERS ?gc_MAX_LETTERS ?gc_MAX_LEAVES ?gc_MAX_TUPLES ?gc_MAX_DEPTH
    (case a0 => k_is)
    (case l0 => k_is)
    (case c0 => k_is)
    (case k0 => k_is)
    (case a1 => k_is)
    (case l1 => k_is)
    (case c1 => k_is)
    (case k1 => k_is)
    (case a2 => k_is)
    (case l2 => k_is)
    (case c2 => k_is)
    (case k2 => k_is)
    (case a3 => k_is)
    (case l3 => k_is)
    (case c3 => k_is)
    (case k3 => k_is)
    (case a4 => k_is)
    (case l4 => k_is)
    (case c4 => k_is)
    (case k4 => k_is)
    (case a5 => k_is)
    (case l5 => k_is)
    (case c5 => k_is)
    (case k5 => k_is)
    (case a6 => k_is)
    (case l6 => k_is)
    (case c6 => k_is)
    (case k6 => k_is)
    (case a7 => k_is)
    (case l7 => k_is)
    (case c7 => k_is)
    (case k7 => k_is)
    (case a8 => k_is)
    (case l8 => k_is)
    (case c8 => k_is)
    (case k8 => k_is)
    (case a9 => k_is)
    (case l9 => k_is)
    (case c9 => k_is)
    (case k9 => k_is)
    (case a10 => k_is)
    (case l10 => k_is)
    (case c10 => k_is)
    (case k10 => k_is)
    (case a11 => k_is)
    (case l11 => k_is)
    (case c11 => k_is)
    (case k11 => k_is)
    (case a12 => k_is)
    (case l12 => k_is)
    (case c12 => k_is)
    (case k12 => k_is)
    (case a13 => k_is)
    (case l13 => k_is)
    (case c13 => k_is)
    (case k13 => k_is)
    (case a14 => k_is)
    (case l14 => k_is)
    (case c14 => k_is)
    (case k14 => k_is)
    (case a15 => k_is)
    (case l15 => k_is)
    (case c15 => k_is)
    (case k15 => k_is)
    (case a16 => k_is)
    (case l16 => k_is)
    (case c16 => k_is)
    (case k16 => k_is)
    (case a17 => k_is)
    (case l17 => k_is)
    (case c17 => k_is)
    (case k17 => k_is)
    (case z0 => k_is)
    (case z1 => k_is)
    (case z2 => k_is)
    (case z3 => k_is)
    (case z4 => k_is)
    (case z5 => k_is)
    (case z6 => k_is)
    (case z7 => k_is)
    (case z8 => k_is)
    (case z9 => k_is)
    (case z10 => k_is)
    (case z11 => k_is)
    (case gc_OPERAND_COUNTS => k_is)
    (case ld_OPERAND_COUNTS => k_is)
    (case kl_OPERAND_COUNTS => k_keys)
    (case ns_OPERAND_COUNTS => first | rfl | decide)
    (case gc_LETTERS => k_is)
    (case gc_MAX_LETTERS => k_is)
    (case gc_MAX_LEAVES => k_is)
    (case gc_MAX_TUPLES => k_is)
    (case gc_MAX_DEPTH => k_is)

