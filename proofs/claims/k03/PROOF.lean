import PyProof.Rows.All
import Wide.All
import OpenK.AllK
import Wide.FinOn
import HandS.ForMost
import HandS.RevRange
import HandS.Zip
import HandS.IsInst
import HandS.Conv
import HandS.Wide
import HandS.Evl
import HandS.TupMul
import HandS.TupAny
import KE.GoesEnum
import PySem.Challenge.RW_maskedlist_k03_inverses
set_option Elab.async false
set_option linter.all false
set_option maxRecDepth 100000
set_option maxHeartbeats 4000000
/-! calls that know that nothing is being shown (no repr runs around): our own layer over the hand layer -/
namespace Vx
open PySem PySem.Spec PyProof.Rows L2
/-- room for k calls, and no repr is under way -/
structure Rm (k : Nat) (A : Around) : Prop where
  r : Room k A
  g : A.guards = some []
theorem Rm.mono {j k : Nat} {A : Around} (h : Rm k A) (le : j ≤ k) : Rm j A := ⟨h.r.mono le, h.g⟩
/-- a def's promise, for calls with Rm -/
structure FnG (P : Program) (w : World) (K : PySem.W.Frag) (mg : Str → Option Value) (base : Heap) (CX : CXT) (k : Nat) (f : Addr) (fd : FuncData) (ps : List Str) (sp : Sp) : Prop where
  ln : ∀ vs H Q E, sp vs H Q E → vs.length = ps.length
  go : ∀ (A : Around) (o : List Env) (s : Shared) (H : Hp) (az : Args) (us : List Value) (vs : List V) (Q : VK) (E : XK), Rm k A → Env0 P w K mg base A o s H → BindsTo s fd az (ps.zip us) → Vals vs us → sp vs H Q E →
    codeAny (model P w) A (.call (.ref f) az) (CR CX o P w H s Q E) s
section
variable {X : Cx} {CX : CXT} {k : Nat} {f : Addr} {fd : FuncData} {ps ks : List Str} {sp : Sp} {dvs : List V} {ds : List Value} {E : XK} {x : Str} {p pos : Pos} {e : Expr} {es : List Expr} {kws : List Keyword} {t tk : TA}
  {g : List Value → List Value → List Value} {gV : List V → List V → List V}
/-- the callee runs at its bound arguments -/
theorem runG {pins : List (Addr × Obj)} {σ : L2.St} {H : Hp} {s : Shared} {Q : VK} {us : List Value} {kw : List (Str × Value)} {bs : List Value} {vs : List V} (F : FnG X.prog X.w X.K X.mg X.base CX k f fd ps sp) (hr : Rm k X.A) (hx : Passes CX X E)
    (I : Inv X pins σ H s) (hb : BindsTo s fd ⟨us, kw⟩ (ps.zip bs)) (r : Vals vs bs) (h : sp vs H Q E) : wpAny (model X.prog X.w) X.A (call (.ref f) us kw) (EP X pins σ Q) X.xe s := by
  refine wpAny_call (codeAny_mono (F.go X.A X.stack s H ⟨us, kw⟩ bs vs Q E hr I.env0 hb r h) ?_)
  intro z s' hq
  match z, hq with
  | .ok (.ret _), hq => exact I.after hq
  | .ok .next, hq => exact False.elim hq
  | .ok .brk, hq => exact False.elim hq
  | .ok .cont, hq => exact False.elim hq
  | .error e, hq => exact hx pins σ H s e s' I hq
theorem ge_call (F : FnG X.prog X.w X.K X.mg X.base CX k f fd ps sp) (hr : Rm k X.A) (hg : Gl X x) (hm : X.mg x = some (.ref f)) (hk : PySem.W.keepIn X.K (.ref f) = true) (hb : Binds X.K fd ps ds) (hd : Vals dvs ds) (hx : Passes CX X E)
    (ha : PA X (e :: es) t) (hdb : (x == ("__debug__" : Str)) = false := by decide) (he : starEach (e :: es) X.env = (false, eval e X.env) :: starEach es X.env := by rfl) (hpl : (backTo pos (starEach es X.env)).any (·.1) = false := by rfl) :
    PE X (.Call (.Name x p) (e :: es) [] pos) (tCall sp dvs E t) := by
  constructor
  intro pins s σ H Q I h
  refine wpAny_Call_Name_kw (ld_glob I hg hm (PySem.W.callWith_K (h₀ := X.base) I.ok.mod.kin hk (thn (ha.run pos pins s σ H _ I h) ?_) he hpl) hdb)
  rintro us s1 ⟨vs, H1, I1, r, q⟩
  have r2 := r.append hd
  have q2 := F.ln _ _ _ _ q
  rw [r2.length] at q2
  exact ⟨I1.kIn, runG F hr hx I1 (hb s1 us I1.kIn q2) r2 q⟩
theorem ge_callK (F : FnG X.prog X.w X.K X.mg X.base CX k f fd ps sp) (hr : Rm k X.A) (hg : Gl X x) (hm : X.mg x = some (.ref f)) (hk : PySem.W.keepIn X.K (.ref f) = true) (hb : KBinds X.K fd ps ks g gV) (hx : Passes CX X E)
    (hkw : PK X kws tk) (hall : (backToKw pos (keywordEach kws X.env)).all (·.1.isSome) = true := by rfl) (hks : (backToKw pos (keywordEach kws X.env)).filterMap (·.1) = ks := by rfl)
    (hdb : (x == ("__debug__" : Str)) = false := by decide)
    (hpl : ((backTo pos (starEach [] X.env)).any (·.1) || (backToKw pos (keywordEach kws X.env)).any (·.1.isNone)) = false := by rfl) :
    PE X (.Call (.Name x p) [] kws pos) (tCallK sp gV E tNil tk) := by
  constructor
  intro pins s σ H Q I h
  refine wpAny_Call_Name_kw (ld_glob I hg hm (PySem.W.callWith_KW0 (h₀ := X.base) I.ok.mod.kin hk hall (thn (hkw.run pos pins s σ H _ I h) ?_) hpl) hdb)
  rintro ws s2 ⟨zs, H2, I2, rz, q2⟩
  rw [hks]
  have r2 := hb.rel (vs := []) (us := []) .nil rz
  have n2 := F.ln _ _ _ _ q2
  rw [r2.length] at n2
  exact ⟨I2.kIn, runG F hr hx I2 (hb.to s2 [] ws I2.kIn n2) r2 q2⟩
end
/-- a def, by its body -/
theorem fn_ofG {CX : CXT} {P : Program} {w : World} {K : PySem.W.Frag} {mg : Str → Option Value} {base : Heap} {k : Nat} {f : Addr} {name qual : Str} {params : Arguments} {body : List Stmt} {scope : Scope} {dV kV doc pm cdv ct oc : Value} {an od : Option Addr}
    {osl : Array (Option Value)} {N ps : List Str} {sp : Sp} (lk : K.lookup f = some ⟨oc, od, .func (PySem.W.fnOf name qual params body scope dV kV doc pm an cdv ct), osl⟩) (hcd : PySem.W.codeIn K cdv qual = true) (S : FnScope N ps scope)
    (ln : ∀ vs H Q E, sp vs H Q E → vs.length = ps.length)
    (hb : ∀ (A : Around) (o : List Env) (s : Shared) (H : Hp) (vs : List V) (Q : VK) (E : XK), Rm k (A.deeper (envOfC qual scope s.heap.objs.size f cdv)) → sp vs H Q E →
      ∃ t, PSs (cxOf CX P w K mg base N qual scope f cdv A o s H E) body t ∧ t { nx := fun _ H' => Q .non H', rt := Q } (start N vs) H) :
    FnG P w K mg base CX (k + 1) f (PySem.W.fnOf name qual params body scope dV kV doc pm an cdv ct) ps sp := by
  constructor
  · exact ln
  intro A o s H az us vs Q E hr e0 bd r hsp
  have len := ln vs H Q E hsp
  have up : ∀ {b : Addr} {ob : Obj}, base.get? b = some ob → s.heap.get? b = some ob := fun q => (e0.bs _ _ q).1
  have KX : K.In s.heap := e0.mod.kin.keeps fun _ _ q => up q
  have lim : s.heap.NoLimit := e0.mod.nolimit.keeps fun _ _ q => up q
  refine codeAny_call_function hr.r.depth (KX _ _ lk) rfl S.co S.gen rfl (PySem.W.codeRec_of KX hcd) (bd _ _ _ _ (wpAny_newFunctionEnv_cells S.kind ?_ ?_))
  · rintro ⟨n, v⟩ hy
    rcases S.par n (List.of_mem_zip hy).1 with q | q
    · exact .inl q
    · exact .inr ⟨q, PySem.W.cellsFrom_some _ _ _ (.inl q)⟩
  · intro env he s1 x
    subst he
    refine ⟨lim.keeps x.toInCall.keep, codeAny_func ?_⟩
    obtain ⟨t, ht, hq⟩ := hb A o s H vs Q E ⟨hr.r.deeper _, hr.g⟩ hsp
    refine wpAny_mono (ht.run [] s1 (start N vs) H _ (inv_start S hr.r.hd e0 len r x) hq) ?_ (fun _ _ z => z)
    intro fl s' z
    match fl, z with
    | .ret u, ⟨v, _, H', J, rv, q⟩ => exact ⟨v, H', J.os, J.bare, J.base, J.hok, rv, q⟩
    | .next, ⟨_, H', J, q⟩ => exact ⟨.non, H', J.os, J.bare, J.base, J.hok, rfl, q⟩
    | .brk, ⟨_, _, _, q⟩ => exact False.elim q
    | .cont, ⟨_, _, _, q⟩ => exact False.elim q
section
variable {P : Program} {w : World} {K : PySem.W.Frag} {mg : Str → Option Value} {base : Heap}
theorem okG {x qual : Str} {st : Stmt} {f : Addr} {fd : FuncData} {N ps : List Str} {k : Nat} {sp : Sp} (F : Fun K x qual st f fd) (S : FnScope N ps (defScope st)) (ln : ∀ vs H Q E, sp vs H Q E → vs.length = ps.length)
    (hb : ∀ (cdv : Value) (A : Around) (o : List Env) (s : Shared) (H : Hp) (vs : List V) (Q : VK) (E : XK), Rm k (A.deeper (envOfC qual (defScope st) s.heap.objs.size f cdv)) → sp vs H Q E →
      ∃ t, PSs (cxOf CX0 P w K mg base N qual (defScope st) f cdv A o s H E).nox (defBody st) t ∧ t { nx := fun _ H' => Q .non H', rt := Q } (start N vs) H) : FnG P w K mg base CX0 (k + 1) f fd ps sp := by
  obtain ⟨oc, od, kV, doc, pm, an, cdv, ct, osl, rfl, lk, hcd⟩ := F.ex
  refine fn_ofG lk hcd S ln ?_
  intro A o s H vs Q E hr hsp
  obtain ⟨t, h, q⟩ := hb cdv A o s H vs Q E hr hsp
  exact ⟨t, h.nox, q⟩
/-- a def that others call: where it stands, how it binds, its promise -/
structure Cal (P : Program) (w : World) (K : PySem.W.Frag) (mg : Str → Option Value) (base : Heap) (x : Str) (k : Nat) (ps : List Str) (sp : Sp) : Prop where
  ex : ∃ f fd, FnG P w K mg base CX0 k f fd ps sp ∧ mg x = some (.ref f) ∧ PySem.W.keepIn K (.ref f) = true ∧ Binds K fd ps []
end
/-- .. that is called by names too: the names as written, how they are put in order -/
structure CalK (P : Program) (w : World) (K : PySem.W.Frag) (mg : Str → Option Value) (base : Heap) (x : Str) (k : Nat) (ps : List Str) (sp : Sp) (ks : List Str) (g : {α : Type} → List α → List α → List α) : Prop where
  ex : ∃ f fd, FnG P w K mg base CX0 k f fd ps sp ∧ mg x = some (.ref f) ∧ PySem.W.keepIn K (.ref f) = true ∧ Binds K fd ps [] ∧ KBinds K fd ps ks g g
/-- at the law's entry: what the abstract heap H tracks is the script at a alone -/
structure Entry (P : Program) (w : World) (K : PySem.W.Frag) (H : Hp) (h : Heap) (a : Addr) (ns : List Int) : Prop where
  only : Only H
  seq : SqL K H a (ns.map V.int)
  ok : HOk P w H h
  one : ∀ b u, H b = some u → b = a
  own : ∀ u, H a = some u → K.lookup a = none
theorem entry_of {P : Program} {w : World} {K : PySem.W.Frag} {h : Heap} {a : Addr} {vs : List Value} {ns : List Int} (KX : K.In h) (ha : h.get? a = some { cls := .type "list", data := .seq vs.toArray })
    (hi : IntsAre vs ns) (hl : ns.length ≤ sizeLine) : ∃ H, Entry P w K H h a ns := by
  have rv : Vals (ns.map V.int) vs := vals_ints hi
  have nl : vs.length = ns.length := hi.length
  match hk : K.lookup a with
  | some o =>
    obtain rfl : _ = o := Option.some.inj (ha.symm.trans (KX a o hk))
    refine ⟨fun _ => none, fun _ => Or.inl rfl, Or.inr ⟨_, vs.toArray, _, hk, rfl, rfl, rfl, ?_, ?_⟩, ?_, ?_, ?_⟩
    · simpa only [List.size_toArray, nl] using hl
    · simpa only using rv
    · intro b u z; cases z
    · intro b u z; cases z
    · intro u z; cases z
  | none =>
    let fz : HO := .frz { cls := .type "list", data := .seq vs.toArray } (.lst (ns.map V.int))
    have at_ : upd (fun _ => none) a fz a = some fz := upd_same
    have off : ∀ b, b ≠ a → upd (fun _ => none) a fz b = none := fun b z => upd_ne z
    refine ⟨upd (fun _ => none) a fz, fun b => ?_, Or.inl (Or.inr ⟨_, at_⟩), fun b u z => ?_, fun b u z => ?_, fun _ _ => hk⟩
    · rcases Decidable.em (b = a) with rfl | q
      · exact Or.inr ⟨_, _, at_⟩
      · exact Or.inl (off b q)
    · rcases Decidable.em (b = a) with rfl | q
      · rw [at_] at z
        obtain rfl := Option.some.inj z
        exact ⟨ha, (by simpa only [List.length_map] using hl), vs, _, rv, ha⟩
      · rw [off b q] at z
        cases z
    · rcases Decidable.em (b = a) with q | q
      · exact q
      · rw [off b q] at z
        cases z
theorem base_at {P : Program} {w : World} {K : PySem.W.Frag} {H : Hp} {h : Heap} {a : Addr} {vs : List Value} {ns : List Int} (E : Entry P w K H h a ns) (ha : h.get? a = some { cls := .type "list", data := .seq vs.toArray })
    {b : Addr} {m : Str → Option Value} (n : h.Ns b m) : (hidT h H).Ns b m := by
  obtain ⟨o, es, ep, e, d, r⟩ := n
  refine ⟨o, es, ep, hidT_get e ?_, d, r⟩
  match q : H b with
  | none => rfl
  | some u =>
    obtain rfl := E.one b u q
    rw [ha] at e
    obtain rfl := Option.some.inj e
    cases d
theorem base_in {P : Program} {w : World} {K : PySem.W.Frag} {H : Hp} {h : Heap} {a : Addr} {ns : List Int} (E : Entry P w K H h a ns) (KX : K.In h) : K.In (hidT h H) := by
  intro b o e
  refine hidT_get (KX b o e) ?_
  match q : H b with
  | none => rfl
  | some u =>
    obtain rfl := E.one b u q
    rw [E.own u q] at e
    cases e
theorem law_end {P : Program} {w : World} {K : PySem.W.Frag} {mg mb : Str → Option Value} {k : Nat} {fa a : Addr} {fd : FuncData} {x : Str} {sp : Sp} {z : Shared} {vs : List Value} {ns : List Int}
    (KX : K.In z.heap) (g1 : z.heap.Ns mainGlobals mg) (g2 : z.heap.Ns builtinsNs mb) (g3 : ∀ y : Str, y ≠ "__name__" → mb y = bootBuiltins y) (g4 : z.heap.NoLimit) (g5 : z.gens = #[])
    (ha : z.heap.get? a = some { cls := .type "list", data := .seq vs.toArray }) (hi : IntsAre vs ns) (hl : ns.length ≤ sizeLine) (hr : Room k callerA)
    (F : ∀ base : Heap, K.In base → base.Ns mainGlobals mg → FnG P w K mg base CX0 k fa fd [x] sp) (bd : ∀ (s : Shared) (u : Value), BindsTo s fd ⟨[u], []⟩ [(x, u)])
    (hsp : ∀ H : Hp, Only H → SqL K H a (ns.map V.int) → sp [.ref a] H (fun v _ => v = .bl true) fun _ _ _ => False) :
    codeAny (model P w) callerA (.call (.ref fa) ⟨[.ref a], []⟩) (fun r y => r = .ok (.ret (.bool true)) ∧ OldK z.heap y.heap ∧ y.os = z.os ∧ AllBare y.gens) z := by
  obtain ⟨H, E⟩ := entry_of (P := P) (w := w) KX ha hi hl
  have kb := base_in E KX
  have nb := base_at E ha g1
  obtain ⟨mc, c1, c2⟩ := g4
  have M : Mod K mg (hidT z.heap H) := ⟨kb, nb, ⟨mb, base_at E ha g2, g3⟩, ⟨mc, base_at E ha c1, c2⟩⟩
  have nofr : ∀ b, b ∉ frs [] := fun b hb => nomatch hb
  have e0 : Env0 P w K mg (hidT z.heap H) callerA [] z H := ⟨rfl, M, fun _ _ q => of_hidT q, Nat.le_of_eq (hidT_size _ _), trivial, fun b hb => absurd hb (nofr b), E.ok, .of_eq g5⟩
  refine codeAny_mono ((F _ kb nb).go callerA [] z H ⟨[.ref a], []⟩ [.ref a] [.ref a] _ _ ⟨hr, rfl⟩ e0 (bd z (.ref a)) (.cons rfl .nil) (hsp H E.only E.seq)) ?_
  intro r y q
  match r, q with
  | .ok (.ret u), q =>
    obtain ⟨v, H', os, bare, un, ok', rv, qv⟩ := q
    obtain rfl : v = V.bl true := qv
    obtain rfl : u = Value.bool true := rv
    refine ⟨rfl, OldK.of_keep ?_, os, bare⟩
    intro b o e
    match q : H b with
    | none => exact un.keep b o e q (nofr b) (fun hb => nomatch hb)
    | some u =>
      rcases E.only b with n | ⟨ob, xs, n⟩
      · rw [q] at n; cases n
      · have o1 := (E.ok b _ n).1
        have o2 := (ok' b _ (un.frzs b ob _ n)).1
        exact (o2.trans o1.symm).trans e
/-- the goal behind k_head -/
theorem walkG {l : PySem.W.OpenLaw} {n k : Nat} {q : Program} {loose : List Str} {XP : (Str → Option Value) → Heap → Prop} {YP : World → Heap → Prop} {d : DefRec} {K : Params → PySem.W.Frag} {sp : World → Sp} {x : Str}
    (hn : l.most = some n) (n2 : n ≤ sizeLine) (hdf : d.params.defaults = []) (hr : Room k callerA) (hY : ∀ (w : World) (h : Heap), YP w h → (K w.params).In h)
    (F : ∀ (w : World) (mg : Str → Option Value) (fa : Addr) (h : Heap), (K w.params).In h → h.Ns mainGlobals mg → mg d.name = some (.ref fa) →
      ∃ fd : FuncData, (∀ (s : Shared) (u : Value), BindsTo s fd ⟨[u], []⟩ [(x, u)]) ∧ ∀ base : Heap, (K w.params).In base → base.Ns mainGlobals mg → FnG l.prog w (K w.params) mg base CX0 k fa fd [x] (sp w))
    (hsp : ∀ (w : World) (H : Hp) (a : Addr) (ns : List Int), ns.length ≤ n → Only H → SqL (K w.params) H a (ns.map V.int) → sp w [.ref a] H (fun v _ => v = .bl true) fun _ _ _ => False) :
    PySem.W.WalkO q loose XP YP l.row.toRowW d [] (fun f vs => PySem.call f vs) := by
  apply Att.attach_call hn hdf
  intro w s₀ z mg mb fa o pm cd doc a vs ns G Y _ _ _ hmg hobj hi hl hg
  have KX := hY w _ Y
  obtain ⟨fd, hb, hF⟩ := F w mg fa _ KX G.T.g hmg
  exact law_end KX G.T.g G.T.b G.T.builtins G.T.nolimit hg hobj hi (Nat.le_trans hl n2) hr hF hb fun H h1 h2 => hsp w H a ns hl h1 h2
end Vx

namespace Vx
open PySem PySem.Spec PyProof.Rows L2
/-! the pen: a list of three, whose first item is a list of ints -/
theorem sq_ne {K : PySem.W.Frag} {H : Hp} {c p : Addr} {o : HO} {xs : List V} (h : SqL K H c xs) (n : c ≠ p) : SqL K (upd H p o) c xs := by
  rcases h with (h | ⟨q, h⟩) | h
  · exact .inl (.inl (by rw [upd_ne n]; exact h))
  · exact .inl (.inr ⟨q, by rw [upd_ne n]; exact h⟩)
  · exact .inr h
def PenAt (K : PySem.W.Frag) (H : Hp) (p c : Addr) (ns : List Int) (i m : Int) : Prop := H p = some (.lst [.ref c, .int i, .int m]) ∧ SqL K H c (ns.map V.int) ∧ c ≠ p
def Pen (K : PySem.W.Frag) (H : Hp) (p : Addr) : Prop := ∃ c ns i m, PenAt K H p c ns i m
/-- all that was tracked is as it was, but what stands at p -/
def But (p : Addr) (H H' : Hp) : Prop := ∀ b o, b ≠ p → H b = some o → H' b = some o
theorem But.refl (p : Addr) (H : Hp) : But p H H := fun _ _ _ h => h
theorem But.trans {p : Addr} {H H1 H2 : Hp} (a : But p H H1) (b : But p H1 H2) : But p H H2 := fun c o n h => b c o n (a c o n h)
theorem But.upd {p : Addr} {H : Hp} {o : HO} : But p H (L2.upd H p o) := fun b u n h => by rw [upd_ne n]; exact h
theorem same_new {H : Hp} {p : Addr} (h : H p = none) (o : HO) : Same H (upd H p o) := fun b u q => by rw [upd_ne (ne_of_none q h)]; exact q
theorem But.same {p : Addr} {H H' : Hp} (s : Same H H') : But p H H' := fun b o _ h => s b o h
theorem But.new {p q : Addr} {H : Hp} (h : H q = none) (o : HO) : But p H (L2.upd H q o) := .same (same_new h o)
theorem But.get {p b : Addr} {H H' : Hp} {o u : HO} (k : But p H H') (hp : H p = some u) (hb : H b = some o) (d : o ≠ u) : H' b = some o := k b o (ne_of hb hp d) hb
theorem PenAt.put {K : PySem.W.Frag} {H : Hp} {p c : Addr} {ns : List Int} {i m : Int} (h : PenAt K H p c ns i m) (j k : Int) : PenAt K (upd H p (.lst [.ref c, .int j, .int k])) p c ns j k :=
  ⟨upd_same, sq_ne h.2.1 h.2.2, h.2.2⟩
theorem Pen.same {K : PySem.W.Frag} {H H' : Hp} {p : Addr} (h : Pen K H p) (s : Same H H') : Pen K H' p := by
  obtain ⟨c, ns, i, m, h1, h2, h3⟩ := h
  exact ⟨c, ns, i, m, s _ _ h1, s.seq h2, h3⟩
theorem Pen.new {K : PySem.W.Frag} {H : Hp} {p q : Addr} (h : Pen K H p) (n : H q = none) (o : HO) : Pen K (upd H q o) p := h.same (same_new n o)
theorem But.seq {K : PySem.W.Frag} {H H' : Hp} {p a : Addr} {xs : List V} (k : But p H H') (n : a ≠ p) (h : SqL K H a xs) : SqL K H' a xs := by
  rcases h with (h | ⟨o, h⟩) | h
  · exact .inl (.inl (k _ _ n h))
  · exact .inl (.inr ⟨o, k _ _ n h⟩)
  · exact .inr h
theorem But.seqT {K : PySem.W.Frag} {H H' : Hp} {p a : Addr} {xs : List V} (k : But p H H') (n : a ≠ p) (h : SqT K H a xs) : SqT K H' a xs := by
  rcases h with (h | ⟨o, h⟩) | h
  · exact .inl (.inl (k _ _ n h))
  · exact .inl (.inr ⟨o, k _ _ n h⟩)
  · exact .inr h
theorem Same.seqT {K : PySem.W.Frag} {H H' : Hp} {a : Addr} {xs : List V} (e : Same H H') (h : SqT K H a xs) : SqT K H' a xs := by
  rcases h with (h | ⟨o, h⟩) | h
  · exact .inl (.inl (e _ _ h))
  · exact .inl (.inr ⟨o, e _ _ h⟩)
  · exact .inr h
theorem Pen.free {K : PySem.W.Frag} {H : Hp} {p q : Addr} (h : Pen K H p) (n : H q = none) : q ≠ p := by
  obtain ⟨c, ns, i, m, h1, _⟩ := h
  exact fun e => by rw [e, h1] at n; cases n
theorem cutV_map (ns : List Int) (lo hi : Option Int) : ∃ ms : List Int, cutV (ns.map V.int) lo hi = ms.map V.int := by
  unfold cutV
  rw [List.length_map]
  exact ⟨(ns.drop _).take _, by rw [List.map_take, List.map_drop]⟩
theorem cutV_maps (ns : List Int) (lo hi : Option Int) : ∃ ms : List Int, cutV (ns.map V.int) lo hi = ms.map V.int ∧ ms.length ≤ ns.length := by
  obtain ⟨ms, h⟩ := cutV_map ns lo hi
  refine ⟨ms, h, ?_⟩
  have := cutV_length (ns.map V.int) lo hi
  rw [h, List.length_map, List.length_map] at this
  exact this
/-- an int list's item -/
theorem at_map {ns : List Int} {i : Int} (h0 : 0 ≤ i) (h : i < ns.length) : ∃ v : Int, atI (ns.map V.int) i = some (.int v) := by
  have hk : i.toNat < ns.length := by omega
  have e : i = ((i.toNat : Nat) : Int) := by omega
  refine ⟨ns[i.toNat], ?_⟩
  generalize hg : ns[i.toNat] = v
  rw [e]
  subst hg
  exact atI_nat (by rw [List.getElem?_map, List.getElem?_eq_getElem (by omega)]; rfl)
theorem dp_ints (K : PySem.W.Frag) (H : Hp) : ∀ ns : List Int, DpAll K H (ns.map V.int) (ns.map PyData.int)
  | [] => .nil
  | n :: ns => .cons (.int n) (dp_ints K H ns)
theorem lay_ints : ∀ ns : List Int, PyData.canLayAll0 (ns.map PyData.int) = true
  | [] => rfl
  | n :: ns => by
    show (PyData.canLay0 (.int n) && PyData.canLayAll0 (ns.map PyData.int)) = true
    rw [lay_ints ns]
    rfl
theorem depth_ints : ∀ ns : List Int, PyData.depthAll (ns.map PyData.int) = 0
  | [] => rfl
  | n :: ns => by
    show max (PyData.depth (.int n)) (PyData.depthAll (ns.map PyData.int)) = 0
    rw [depth_ints ns]
    rfl
theorem shaped_ints (ns : List Int) : SeqAt.shaped (.list (ns.map PyData.int)) = true := by
  show (PyData.canLayAll0 (ns.map PyData.int) && decide (PyData.depthAll (ns.map PyData.int) + 1 ≤ 64)) = true
  rw [lay_ints, depth_ints]
  rfl
theorem eqv_ints_nil (ns : List Int) : PyData.eqv (.list (ns.map PyData.int)) (.list []) = true → ns = [] := by
  intro h
  cases ns with
  | nil => rfl
  | cons a r => cases h
/-- some draws lie between: the pen's own list may have changed in its two numbers, nothing else that was tracked -/
def Dr (p : Addr) (H H' : Hp) : Prop := But p H H' ∧ ∀ c i m, H p = some (.lst [.ref c, .int i, .int m]) → ∃ j k, H' p = some (.lst [.ref c, .int j, .int k])
theorem Dr.but {p : Addr} {H H' : Hp} (d : Dr p H H') : But p H H' := d.1
theorem Dr.refl (p : Addr) (H : Hp) : Dr p H H := ⟨.refl _ _, fun c i m h => ⟨i, m, h⟩⟩
theorem Dr.trans {p : Addr} {H H1 H2 : Hp} (a : Dr p H H1) (b : Dr p H1 H2) : Dr p H H2 := ⟨a.1.trans b.1, fun c i m h => by
  obtain ⟨j, k, h1⟩ := a.2 c i m h
  exact b.2 c j k h1⟩
theorem Dr.same {p : Addr} {H H' : Hp} (s : Same H H') : Dr p H H' := ⟨.same s, fun c i m h => ⟨i, m, s _ _ h⟩⟩
theorem Dr.new {p q : Addr} {H : Hp} (h : H q = none) (o : HO) : Dr p H (L2.upd H q o) := .same (same_new h o)
theorem Dr.pen {K : PySem.W.Frag} {p : Addr} {H H' : Hp} (d : Dr p H H') (h : Pen K H p) : Pen K H' p := by
  obtain ⟨c, ns, i, m, h1, h2, h3⟩ := h
  obtain ⟨j, k, h4⟩ := d.2 c i m h1
  exact ⟨c, ns, j, k, h4, d.1.seq h3 h2, h3⟩
theorem Dr.mut {K : PySem.W.Frag} {p D : Addr} {H H' : Hp} {o : HO} (d : Dr p H H') (hP : Pen K H p) (h : H D = none) : Dr p H (L2.upd H' D o) := by
  have ne : D ≠ p := hP.free h
  refine ⟨fun b u nb hb => ?_, fun c i m hc => ?_⟩
  · rw [upd_ne (ne_of_none hb h)]
    exact d.1 b u nb hb
  · obtain ⟨j, k, h4⟩ := d.2 c i m hc
    exact ⟨j, k, by rw [upd_ne (Ne.symm ne)]; exact h4⟩
theorem Dr.put {K : PySem.W.Frag} {p c : Addr} {H H' : Hp} {ns : List Int} {i m : Int} (b : But p H H') (h0 : PenAt K H p c ns i m) {j k : Int} (h : H' p = some (.lst [.ref c, .int j, .int k])) : Dr p H H' := ⟨b, fun c' i' m' h' => by
  rw [h0.1] at h'
  cases h'
  exact ⟨j, k, h⟩⟩
end Vx

namespace Vx
open PySem PySem.Spec PyProof.Rows L2
/-! (x, ..) * k for small k: one time is the tuple itself, no time the empty tuple -/
theorem times_one (l : Addr) (items : Array Value) (n : Nat) (dd : Option Addr) (sl : Array (Option Value)) (u : Tok) (c : (items.isEmpty || (1 : Int) == 1) = true) :
    Meets (Builtin.«tuple.__mul__» ⟨[.ref l, .int 1 u], []⟩) (fun _ R s => s.heap.get? l = some { cls := .type "tuple", dict := dd, data := .seq items n, slots := sl } ∧ R (.ok (.ret (Value.ref l))) s) :=
  .of_wp fun prog w A R s h => by
    obtain ⟨hp, g, d, tk, os⟩ := s
    obtain ⟨hl, h⟩ := h
    have f1 := AutoSeq1.idx_int
    wp_walk using wpAny_loadPart' hl
    repeat (first
      | (refine wpAny_ite_true c ?_; wp_walk using wpAny_loadPart' hl))
    exact ⟨_, rfl, h⟩
theorem times_none (l : Addr) (items : Array Value) (n : Nat) (dd : Option Addr) (sl : Array (Option Value)) (x : Int) (u : Tok) (c0 : (decide (x < -(2 ^ 63)) || decide (x ≥ 2 ^ 63)) = false) (c1 : (items.isEmpty || x == 1) = false) (c2 : (decide (x ≤ 0) || items.isEmpty) = true) :
    Meets (Builtin.«tuple.__mul__» ⟨[.ref l, .int x u], []⟩) (fun _ R s => s.heap.get? l = some { cls := .type "tuple", dict := dd, data := .seq items n, slots := sl } ∧
      R (.ok (.ret (Value.ref s.heap.objs.size))) { s with heap := s.heap.push { cls := Value.type "tuple", data := Data.seq #[] }, toks := s.toks }) :=
  .of_wp fun prog w A R s h => by
    obtain ⟨hp, g, d, tk, os⟩ := s
    obtain ⟨hl, h⟩ := h
    have f1 := AutoSeq1.idx_int
    wp_walk using wpAny_loadPart' hl
    repeat (first
      | (refine wpAny_ite_false (decide_eq_false (by rw [c0]; exact Bool.false_ne_true)) ?_; wp_walk using wpAny_loadPart' hl)
      | (refine wpAny_ite_false (decide_eq_false (by rw [c1]; exact Bool.false_ne_true)) ?_; wp_walk using wpAny_loadPart' hl)
      | (refine wpAny_ite_true (decide_eq_true c2) ?_; wp_walk using wpAny_loadPart' hl))
    exact ⟨_, rfl, h⟩
section
variable {X : Cx}
/-- what comes is some tuple of these items, new or not -/
def someT (K : PySem.W.Frag) (xs : List V) (H : Hp) (Q : VK) : Prop := ∀ (r : Addr) (H' : Hp), Same H H' → SqT K H' r xs → Q (.ref r) H'
theorem someT.new {K : PySem.W.Frag} {xs : List V} {H : Hp} {Q : VK} (h : someT K xs H Q) : ∀ p, H p = none → Q (.ref p) (upd H p (.tup xs)) := fun p hp => h p _ (same_new hp _) (SqT.of upd_same)
theorem someT.old {K : PySem.W.Frag} {xs : List V} {H : Hp} {Q : VK} {a : Addr} (h : someT K xs H Q) (hx : SqT K H a xs) : Q (.ref a) H := h a H (Same.refl H) hx
def rCatS (K : PySem.W.Frag) : R2 := fun x y H Q => ∃ a b xs ys, x = .ref a ∧ y = .ref b ∧ SqT K H a xs ∧ SqT K H b ys ∧ xs.length + ys.length ≤ sizeLine ∧ someT K (xs ++ ys) H Q
theorem op_catS : OpR X (binaryOp .Add) (rCatS X.K) := by
  intro pins s σ H x y v u Q I rx ry h
  obtain ⟨a, b, xs, ys, ea, eb, ha, hb, hz, q⟩ := h
  refine op_catA pins s σ H x y v u Q I rx ry ⟨a, b, xs, ys, ea, eb, ha, hb, hz, fun e => ?_, fun _ e => ?_, fun _ _ => q.new⟩
  · subst e
    exact q.old hb
  · subst e
    exact q.old (by rw [List.append_nil]; exact ha)
def rRepS (K : PySem.W.Frag) : R2 := fun x y H Q => ∃ l k xs, x = .ref l ∧ y = .int k ∧ SqT K H l xs ∧ xs ≠ [] ∧ -1000 ≤ k ∧ k ≤ 1000 ∧ xs.length ≤ 1000 ∧ someT K (List.replicate k.toNat xs).flatten H Q
theorem op_repS : OpR X (binaryOp .Mult) (rRepS X.K) := by
  intro pins s σ H x y v u Q I rx ry h
  obtain ⟨l, k, xs, rfl, rfl, hT, hne, h1, h2, hz, q⟩ := h
  by_cases k2 : 2 ≤ k
  · exact op_repT pins s σ H _ _ v u Q I rx ry ⟨l, k, xs, rfl, rfl, hT, hne, k2, h2, hz, q.new⟩
  cases rx
  obtain ⟨t, rfl⟩ := ry
  obtain ⟨its, r, ⟨⟨cls, dd, data, sl⟩, ho, hc, n, hd⟩, hs⟩ := I.tuple hT
  simp only at hc hd
  subst hc hd
  have hle : its.length = xs.length := r.length.symm
  have hi : its.toArray.isEmpty = false := by
    match its, hle with
    | [], e => exact absurd (List.eq_nil_of_length_eq_zero e.symm) hne
    | _ :: _, _ => rfl
  by_cases k1 : k = 1
  · subst k1
    have c1 : (its.toArray.isEmpty || (1 : Int) == 1) = true := by rw [hi]; rfl
    refine wpAny_binaryOp_repeat_ref (T := "tuple") (U := "int") (by decide) ⟨_, ho, rfl⟩ (fun s' => typeIs_int s' 1 t) noFill_tuple_mul F.fills_int_mul F.slot_int_rmul repeat_tuple F.slot_int_index.lookup ?_
    refine call_meets F.slot_int_rmul (typeIs_int s 1 t) F.entry_int_rmul (F.args_int_rmul_2 _ _) (int_rmul_tuple 1 t l its.toArray n dd sl) ⟨ho, rfl, ⟨_, ho, rfl⟩, ?_⟩
    refine call_meets F.slot_tuple_mul ⟨_, ho, rfl⟩ F.entry_tuple_mul (F.args_tuple_mul_2 _ _) (times_one l its.toArray n dd sl t c1) ⟨ho, ?_⟩
    exact ⟨.ref l, H, I, rfl, q.old (by simpa using hT)⟩
  · have k0 : k ≤ 0 := by omega
    have e0 : k.toNat = 0 := by omega
    rw [e0] at q
    have c0 : (decide (k < -(2 ^ 63)) || decide (k ≥ 2 ^ 63)) = false := by
      rw [decide_eq_false (by omega), decide_eq_false (by omega)]; rfl
    have c1 : (its.toArray.isEmpty || k == 1) = false := by
      rw [hi, Bool.false_or]
      exact beq_eq_false_iff_ne.mpr k1
    have c2 : (decide (k ≤ 0) || its.toArray.isEmpty) = true := by rw [decide_eq_true k0]; rfl
    refine wpAny_binaryOp_repeat_ref (T := "tuple") (U := "int") (by decide) ⟨_, ho, rfl⟩ (fun s' => typeIs_int s' k t) noFill_tuple_mul F.fills_int_mul F.slot_int_rmul repeat_tuple F.slot_int_index.lookup ?_
    refine call_meets F.slot_int_rmul (typeIs_int s k t) F.entry_int_rmul (F.args_int_rmul_2 _ _) (int_rmul_tuple k t l its.toArray n dd sl) ⟨ho, rfl, ⟨_, ho, rfl⟩, ?_⟩
    refine call_meets F.slot_tuple_mul ⟨_, ho, rfl⟩ F.entry_tuple_mul (F.args_tuple_mul_2 _ _) (times_none l its.toArray n dd sl k t c0 c1 c2) ⟨ho, ?_⟩
    have hp : H s.heap.objs.size = none := I.hok.fresh (Nat.le_refl _)
    refine ⟨.ref s.heap.objs.size, _, I.laid (t' := s.toks) (o := .tup []) (fun b ob e => Heap.get?_push_of_some _ e) (Nat.le_refl _) ?_, rfl, q.new _ hp⟩
    exact ⟨Nat.zero_le _, [], .nil, IsTup.new _ _⟩
def rSlS (K : PySem.W.Frag) : V → Option Int → Option Int → Hp → VK → Prop := fun x lo hi H Q => ∃ a xs, x = .ref a ∧ SqT K H a xs ∧ someT K (cutV xs lo hi) H Q
theorem cutV_whole {xs : List V} {lo hi : Option Int} (h : HT.sIx xs.length 0 lo = 0 ∧ HT.sIx xs.length xs.length hi = xs.length) : cutV xs lo hi = xs := by
  unfold cutV
  rw [h.1, h.2, List.drop_zero, Nat.sub_zero, List.take_length]
theorem sl_tupS : SlR X (rSlS X.K) := by
  intro pins s σ H x v vl vu lo hi sl Q I rx hs pl pu h
  obtain ⟨a, xs, e, hx, q⟩ := h
  exact sl_tupA pins s σ H x v vl vu lo hi sl Q I rx hs pl pu ⟨a, xs, e, hx, fun w => q.old (by rw [cutV_whole w]; exact hx), fun _ => q.new⟩
end
end Vx

/-! sums and square matrices of ints modulo q, in plain Lean -/
namespace Vx
def sm : Nat → (Nat → Int) → Int
  | 0, _ => 0
  | n + 1, f => sm n f + f n
theorem sm_congr {n : Nat} {f g : Nat → Int} (h : ∀ k, k < n → f k = g k) : sm n f = sm n g := by
  induction n with
  | zero => rfl
  | succ n ih =>
    show sm n f + f n = sm n g + g n
    rw [ih fun k hk => h k (by omega), h n (by omega)]
theorem sm_zero (n : Nat) : sm n (fun _ => 0) = 0 := by
  induction n with
  | zero => rfl
  | succ n ih =>
    show sm n (fun _ => 0) + 0 = 0
    rw [ih]; rfl
theorem sm_zero' {n : Nat} {f : Nat → Int} (h : ∀ k, k < n → f k = 0) : sm n f = 0 := by
  rw [sm_congr h, sm_zero]
theorem sm_add (n : Nat) (f g : Nat → Int) : sm n (fun k => f k + g k) = sm n f + sm n g := by
  induction n with
  | zero => rfl
  | succ n ih =>
    show sm n (fun k => f k + g k) + (f n + g n) = (sm n f + f n) + (sm n g + g n)
    rw [ih]; omega
theorem sm_mulL (c : Int) (n : Nat) (f : Nat → Int) : sm n (fun k => c * f k) = c * sm n f := by
  induction n with
  | zero => show (0 : Int) = c * 0; omega
  | succ n ih =>
    show sm n (fun k => c * f k) + c * f n = c * (sm n f + f n)
    rw [ih, Int.mul_add]
theorem sm_mulR (c : Int) (n : Nat) (f : Nat → Int) : sm n (fun k => f k * c) = sm n f * c := by
  induction n with
  | zero => show (0 : Int) = 0 * c; omega
  | succ n ih =>
    show sm n (fun k => f k * c) + f n * c = (sm n f + f n) * c
    rw [ih, Int.add_mul]
theorem sm_comm (n m : Nat) (f : Nat → Nat → Int) : sm n (fun i => sm m fun j => f i j) = sm m fun j => sm n fun i => f i j := by
  induction n with
  | zero =>
    show (0 : Int) = sm m fun _ => 0
    rw [sm_zero]
  | succ n ih =>
    show sm n (fun i => sm m fun j => f i j) + sm m (fun j => f n j) = sm m fun j => (sm n fun i => f i j) + f n j
    rw [ih, sm_add]
/-- one term alone -/
theorem sm_one {n i : Nat} {f : Nat → Int} (hi : i < n) (h : ∀ k, k < n → k ≠ i → f k = 0) : sm n f = f i := by
  induction n with
  | zero => omega
  | succ n ih =>
    show sm n f + f n = f i
    by_cases e : i = n
    · subst e
      rw [sm_zero' fun k hk => h k (by omega) (by omega)]; omega
    · rw [ih (by omega) fun k hk => h k (by omega), h n (by omega) (by omega)]; omega
/-- the sum from one term on -/
theorem sm_split {n i : Nat} {f : Nat → Int} (hi : i ≤ n) (h : ∀ k, k < i → f k = 0) : sm n f = sm (n - i) fun k => f (i + k) := by
  induction n with
  | zero =>
    obtain rfl : i = 0 := by omega
    rfl
  | succ n ih =>
    by_cases e : i = n + 1
    · subst e
      rw [sm_zero' fun k hk => h k (by omega), Nat.sub_self]; rfl
    · have e2 : n + 1 - i = (n - i) + 1 := by omega
      rw [e2]
      show sm n f + f n = (sm (n - i) fun k => f (i + k)) + f (i + (n - i))
      rw [ih (by omega), show i + (n - i) = n by omega]
def Cg (q a b : Int) : Prop := a % q = b % q
theorem Cg.refl (q a : Int) : Cg q a a := rfl
theorem Cg.of_eq {q a b : Int} (h : a = b) : Cg q a b := by rw [h]; rfl
theorem Cg.symm {q a b : Int} (h : Cg q a b) : Cg q b a := Eq.symm h
theorem Cg.trans {q a b c : Int} (h : Cg q a b) (k : Cg q b c) : Cg q a c := Eq.trans h k
theorem Cg.add {q a b c d : Int} (h : Cg q a b) (k : Cg q c d) : Cg q (a + c) (b + d) := by
  unfold Cg at *
  rw [Int.add_emod, h, k, ← Int.add_emod]
theorem Cg.mul {q a b c d : Int} (h : Cg q a b) (k : Cg q c d) : Cg q (a * c) (b * d) := by
  unfold Cg at *
  rw [Int.mul_emod, h, k, ← Int.mul_emod]
theorem Cg.neg {q a b : Int} (h : Cg q a b) : Cg q (-a) (-b) := by
  have := (Cg.refl q (-1)).mul h
  simpa using this
theorem Cg.sub {q a b c d : Int} (h : Cg q a b) (k : Cg q c d) : Cg q (a - c) (b - d) := by
  rw [Int.sub_eq_add_neg, Int.sub_eq_add_neg]
  exact h.add k.neg
theorem Cg.mod (q a : Int) : Cg q (a % q) a := Int.emod_emod_of_dvd a (Int.dvd_refl q)
theorem Cg.eq {q a b : Int} (h : Cg q a b) (a0 : 0 ≤ a) (a1 : a < q) (b0 : 0 ≤ b) (b1 : b < q) : a = b := by
  unfold Cg at h
  rw [Int.emod_eq_of_lt a0 a1, Int.emod_eq_of_lt b0 b1] at h
  exact h
theorem sm_cg {q : Int} {n : Nat} {f g : Nat → Int} (h : ∀ k, k < n → Cg q (f k) (g k)) : Cg q (sm n f) (sm n g) := by
  induction n with
  | zero => exact .refl _ _
  | succ n ih => exact (ih fun k hk => h k (by omega)).add (h n (by omega))
/-! matrices as functions -/
abbrev Fm := Nat → Nat → Int
def mm (n : Nat) (A B : Fm) : Fm := fun i j => sm n fun k => A i k * B k j
def dl : Fm := fun i j => if i = j then 1 else 0
def Eqm (q : Int) (n : Nat) (A B : Fm) : Prop := ∀ i j, i < n → j < n → Cg q (A i j) (B i j)
theorem Eqm.refl (q : Int) (n : Nat) (A : Fm) : Eqm q n A A := fun _ _ _ _ => .refl _ _
theorem Eqm.symm {q : Int} {n : Nat} {A B : Fm} (h : Eqm q n A B) : Eqm q n B A := fun i j a b => (h i j a b).symm
theorem Eqm.trans {q : Int} {n : Nat} {A B C : Fm} (h : Eqm q n A B) (k : Eqm q n B C) : Eqm q n A C := fun i j a b => (h i j a b).trans (k i j a b)
theorem Eqm.mm {q : Int} {n : Nat} {A B C D : Fm} (h : Eqm q n A B) (k : Eqm q n C D) : Eqm q n (mm n A C) (mm n B D) := fun i j a b => sm_cg fun x hx => (h i x a hx).mul (k x j hx b)
theorem mm_assoc (n : Nat) (A B C : Fm) (i j : Nat) : mm n (mm n A B) C i j = mm n A (mm n B C) i j := by
  show sm n (fun k => (sm n fun l => A i l * B l k) * C k j) = sm n fun l => A i l * sm n fun k => B l k * C k j
  rw [sm_congr fun k _ => (sm_mulR (C k j) n fun l => A i l * B l k).symm, sm_comm]
  refine sm_congr fun l _ => ?_
  rw [← sm_mulL]
  exact sm_congr fun k _ => Int.mul_assoc _ _ _
theorem mm_assocE (q : Int) (n : Nat) (A B C : Fm) : Eqm q n (mm n (mm n A B) C) (mm n A (mm n B C)) := fun i j _ _ => .of_eq (mm_assoc n A B C i j)
theorem mm_oneL (q : Int) (n : Nat) (A : Fm) : Eqm q n (mm n dl A) A := fun i j a b => .of_eq (by
  show sm n (fun k => dl i k * A k j) = A i j
  rw [sm_one a fun k _ hk => by show (if i = k then (1 : Int) else 0) * A k j = 0; rw [if_neg (Ne.symm hk)]; omega]
  show (if i = i then (1 : Int) else 0) * A i j = A i j
  rw [if_pos rfl]; omega)
theorem mm_oneR (q : Int) (n : Nat) (A : Fm) : Eqm q n (mm n A dl) A := fun i j a b => .of_eq (by
  show sm n (fun k => A i k * dl k j) = A i j
  rw [sm_one b fun k _ hk => by show A i k * (if k = j then (1 : Int) else 0) = 0; rw [if_neg hk]; omega]
  show A i j * (if j = j then (1 : Int) else 0) = A i j
  rw [if_pos rfl]; omega)
/-- B is a right inverse of A -/
def RI (q : Int) (n : Nat) (A B : Fm) : Prop := Eqm q n (mm n A B) dl
/-- a right inverse with a right inverse of its own is a left inverse -/
theorem RI.left {q : Int} {n : Nat} {A B C : Fm} (h : RI q n A B) (k : RI q n B C) : RI q n B A := by
  have e1 : Eqm q n A C := (mm_oneR q n A).symm.trans (((Eqm.refl q n A).mm k.symm).trans ((mm_assocE q n A B C).symm.trans ((h.mm (.refl q n C)).trans (mm_oneL q n C))))
  exact ((Eqm.refl q n B).mm e1).trans k
/-- two right inverses are one, where one is a left inverse too -/
theorem RI.unique {q : Int} {n : Nat} {A B C : Fm} (h : RI q n A B) (k : RI q n A C) (l : RI q n B A) : Eqm q n B C :=
  (mm_oneR q n B).symm.trans (((Eqm.refl q n B).mm k.symm).trans ((mm_assocE q n B A C).symm.trans ((l.mm (.refl q n C)).trans (mm_oneL q n C))))
/-- unitriangular -/
def Ut (n : Nat) (A : Fm) : Prop := ∀ i j, i < n → j < n → (j < i → A i j = 0) ∧ (j = i → A i j = 1)
/-! a right inverse by back substitution -/
def bk (A : Fm) (j : Nat) : Nat → Int
  | 0 => 1
  | d + 1 => - sm (d + 1) (fun e => if h : e < d + 1 then A (j - (d + 1)) (j - e) * bk A j e else 0)
theorem bk_zero (A : Fm) (j : Nat) : bk A j 0 = 1 := by rw [bk]
theorem bk_succ (A : Fm) (j d : Nat) : bk A j (d + 1) = - sm (d + 1) (fun e => A (j - (d + 1)) (j - e) * bk A j e) := by
  rw [bk]
  congr 1
  exact sm_congr fun k hk => dif_pos hk
theorem sm_head (n : Nat) (f : Nat → Int) : sm (n + 1) f = f 0 + sm n (fun k => f (k + 1)) := by
  induction n with
  | zero => show (0 : Int) + f 0 = f 0 + 0; omega
  | succ n ih =>
    show sm (n + 1) f + f (n + 1) = f 0 + (sm n (fun k => f (k + 1)) + f (n + 1))
    rw [ih]; omega
/-- the sum counted from the other end -/
theorem sm_rev (n : Nat) (f : Nat → Int) : sm n f = sm n fun k => f (n - 1 - k) := by
  induction n generalizing f with
  | zero => rfl
  | succ n ih =>
    have h1 : sm (n + 1) f = f 0 + sm n (fun k => f (k + 1)) := by
      clear ih
      induction n with
      | zero => show (0 : Int) + f 0 = f 0 + 0; omega
      | succ n ih =>
        show sm (n + 1) f + f (n + 1) = f 0 + (sm n (fun k => f (k + 1)) + f (n + 1))
        rw [ih]; omega
    rw [h1, ih fun k => f (k + 1)]
    show f 0 + sm n (fun k => f (n - 1 - k + 1)) = sm n (fun k => f (n + 1 - 1 - k)) + f (n + 1 - 1 - n)
    rw [show n + 1 - 1 - n = 0 by omega, sm_congr (g := fun k => f (n + 1 - 1 - k)) fun k hk => by rw [show n - 1 - k + 1 = n + 1 - 1 - k by omega]]
    omega
theorem ut_has (q : Int) (n : Nat) (A : Fm) (h : Ut n A) : ∃ B : Fm, RI q n A B ∧ Ut n B := by
  refine ⟨fun i j => if i ≤ j then bk A j (j - i) else 0, fun i j hi hj => .of_eq ?_, fun i j hi hj => ⟨fun l => if_neg (by omega), fun l => ?_⟩⟩
  · show sm n (fun k => A i k * if k ≤ j then bk A j (j - k) else 0) = if i = j then 1 else 0
    by_cases hij : i ≤ j
    · -- terms k from i to j
      have e1 : sm n (fun k => A i k * if k ≤ j then bk A j (j - k) else 0) = sm (j + 1) (fun k => A i k * bk A j (j - k)) := by
        have : ∀ m, j + 1 ≤ m → sm m (fun k => A i k * if k ≤ j then bk A j (j - k) else 0) = sm (j + 1) (fun k => A i k * bk A j (j - k)) := by
          intro m hm
          induction m with
          | zero => omega
          | succ m ih =>
            by_cases e : j = m
            · subst e
              exact sm_congr fun k hk => by rw [if_pos (by omega)]
            · show sm m _ + A i m * (if m ≤ j then bk A j (j - m) else 0) = _
              rw [if_neg (by omega), ih (by omega)]; omega
        exact this n (by omega)
      rw [e1, sm_split (i := i) (by omega) fun k hk => by rw [((h i k hi (by omega)).1 hk)]; omega]
      by_cases e : i = j
      · subst e
        rw [show i + 1 - i = 1 by omega, if_pos rfl]
        show (0 : Int) + A i (i + 0) * bk A i (i - (i + 0)) = 1
        rw [Nat.add_zero, (h i i hi hi).2 rfl, Nat.sub_self, bk_zero]
        rfl
      · obtain ⟨d, rfl⟩ : ∃ d, j = i + (d + 1) := ⟨j - i - 1, by omega⟩
        rw [if_neg (by omega), show i + (d + 1) + 1 - i = (d + 1) + 1 by omega, sm_rev]
        show sm (d + 1) (fun k => A i (i + (d + 1 + 1 - 1 - k)) * bk A (i + (d + 1)) (i + (d + 1) - (i + (d + 1 + 1 - 1 - k)))) + A i (i + (d + 1 + 1 - 1 - (d + 1))) * bk A (i + (d + 1)) (i + (d + 1) - (i + (d + 1 + 1 - 1 - (d + 1)))) = 0
        rw [show i + (d + 1 + 1 - 1 - (d + 1)) = i by omega, show i + (d + 1) - i = d + 1 by omega, (h i i hi hi).2 rfl, bk_succ]
        rw [sm_congr (g := fun e => A (i + (d + 1) - (d + 1)) (i + (d + 1) - e) * bk A (i + (d + 1)) e) fun k hk => by
          rw [show i + (d + 1) - (i + (d + 1 + 1 - 1 - k)) = k by omega, show i + (d + 1 + 1 - 1 - k) = i + (d + 1) - k by omega, show i + (d + 1) - (d + 1) = i by omega]]
        omega
    · rw [if_neg (by omega)]
      refine sm_zero' fun k hk => ?_
      by_cases l : k ≤ j
      · rw [(h i k hi hk).1 (by omega)]; omega
      · rw [if_neg l]; omega
  · show (if i ≤ j then bk A j (j - i) else 0) = 1
    rw [if_pos (by omega), l, Nat.sub_self, bk_zero]
theorem ut_left {q : Int} {n : Nat} {A B : Fm} (hb : Ut n B) (h : RI q n A B) : RI q n B A := by
  obtain ⟨C, k, _⟩ := ut_has q n B hb
  exact h.left k
end Vx

namespace Vx
open PySem PySem.Spec PyProof.Rows L2
/-! data in the abstract heap: what keeps it -/
mutual
theorem dp_same {K : PySem.W.Frag} {H H' : Hp} (s : Same H H') : ∀ (d : PyData) (v : V), Dp K H v d → Dp K H' v d
  | .none, _, h => by cases h; exact .non
  | .bool b, _, h => by cases h; exact .bl b
  | .int i, _, h => by cases h; exact .int i
  | .str x, _, h => by cases h; exact .str x
  | .list ds, _, h => by cases h with | lst a b => exact .lst (s.seq a) (dpAll_same s ds _ b)
  | .tuple ds, _, h => by cases h with | tup a b => exact .tup (Same.seqT s a) (dpAll_same s ds _ b)
  | .dict kvs, _, h => by cases h
theorem dpAll_same {K : PySem.W.Frag} {H H' : Hp} (s : Same H H') : ∀ (ds : List PyData) (vs : List V), DpAll K H vs ds → DpAll K H' vs ds
  | [], _, h => by cases h; exact .nil
  | d :: ds, _, h => by cases h with | cons a b => exact .cons (dp_same s d _ a) (dpAll_same s ds _ b)
end
theorem DpAll.app {K : PySem.W.Frag} {H : Hp} : ∀ {vs ws : List V} {ds es : List PyData}, DpAll K H vs ds → DpAll K H ws es → DpAll K H (vs ++ ws) (ds ++ es)
  | _, _, _, _, .nil, h => h
  | _, _, _, _, .cons a b, h => .cons a (DpAll.app b h)
theorem DpAll.len {K : PySem.W.Frag} {H : Hp} : ∀ {vs : List V} {ds : List PyData}, DpAll K H vs ds → vs.length = ds.length
  | _, _, .nil => rfl
  | _, _, .cons _ b => congrArg (· + 1) (DpAll.len b)
theorem DpAll.get {K : PySem.W.Frag} {H : Hp} : ∀ {vs : List V} {ds : List PyData} {i : Nat} {d : PyData}, DpAll K H vs ds → ds[i]? = some d → ∃ v, vs[i]? = some v ∧ Dp K H v d
  | _, _, _, _, .nil, h => by simp at h
  | _, _, 0, _, .cons a b, h => by simp at h; subst h; exact ⟨_, rfl, a⟩
  | _, _, i + 1, d, .cons a b, h => by
    obtain ⟨v, e, k⟩ := DpAll.get (i := i) b (by simpa using h)
    exact ⟨v, by simpa using e, k⟩
theorem DpAll.of {K : PySem.W.Frag} {H : Hp} : ∀ {vs : List V} {ds : List PyData} {i : Nat} {v : V}, DpAll K H vs ds → vs[i]? = some v → ∃ d, ds[i]? = some d ∧ Dp K H v d
  | _, _, _, _, .nil, h => by simp at h
  | _, _, 0, _, .cons a b, h => by simp at h; subst h; exact ⟨_, rfl, a⟩
  | _, _, i + 1, d, .cons a b, h => by
    obtain ⟨v, e, k⟩ := DpAll.of (i := i) b (by simpa using h)
    exact ⟨v, by simpa using e, k⟩
theorem DpAll.set {K : PySem.W.Frag} {H : Hp} {v : V} {d : PyData} (k : Dp K H v d) : ∀ {vs : List V} {ds : List PyData} (i : Nat), DpAll K H vs ds → DpAll K H (vs.set i v) (ds.set i d)
  | _, _, _, .nil => .nil
  | _, _, 0, .cons _ b => .cons k b
  | _, _, i + 1, .cons a b => .cons a (DpAll.set k i b)
theorem dpAll_of {K : PySem.W.Frag} {H : Hp} : ∀ {vs : List V} {ds : List PyData}, vs.length = ds.length → (∀ (i : Nat) (d : PyData), ds[i]? = some d → ∃ v, vs[i]? = some v ∧ Dp K H v d) → DpAll K H vs ds
  | [], [], _, _ => .nil
  | v :: vs, d :: ds, h, k => by
    obtain ⟨v', e, k0⟩ := k 0 d rfl
    obtain rfl : v = v' := by simpa using e
    refine .cons k0 (dpAll_of (by simpa using h) fun i d' hd => ?_)
    obtain ⟨w, e, k1⟩ := k (i + 1) d' (by simpa using hd)
    exact ⟨w, by simpa using e, k1⟩
  | [], _ :: _, h, _ => by simp at h
  | _ :: _, [], h, _ => by simp at h
theorem dp_tuple {K : PySem.W.Frag} {H : Hp} {v : V} {ds : List PyData} (h : Dp K H v (.tuple ds)) : ∃ a xs, v = .ref a ∧ SqT K H a xs ∧ DpAll K H xs ds := by
  cases h with
  | tup a b => exact ⟨_, _, rfl, a, b⟩
theorem dp_int {K : PySem.W.Frag} {H : Hp} {v : V} {i : Int} (h : Dp K H v (.int i)) : v = .int i := by cases h; rfl
theorem dp_ints_eq {K : PySem.W.Frag} {H : Hp} : ∀ {ns : List Int} {vs : List V}, DpAll K H vs (ns.map PyData.int) → vs = ns.map V.int
  | [], _, h => by cases h; rfl
  | n :: ns, _, h => by
    cases h with
    | cons a b =>
      rw [dp_int a, dp_ints_eq b]
      rfl
/-! no list within: a change of a list does not touch it -/
mutual
def noL : PyData → Bool
  | .list _ => false
  | .dict _ => false
  | .tuple ds => noLs ds
  | _ => true
def noLs : List PyData → Bool
  | [] => true
  | d :: ds => noL d && noLs ds
end
/-- p holds something that may change -/
def Chg (H : Hp) (p : Addr) : Prop := (∃ xs, H p = some (.lst xs)) ∨ ∃ kvs, H p = some (.dK kvs)
theorem Chg.tup {K : PySem.W.Frag} {H H' : Hp} {p a : Addr} {xs : List V} (c : Chg H p) (b : But p H H') (h : SqT K H a xs) : SqT K H' a xs := by
  have ne : ∀ o, H a = some o → (∀ zs, o ≠ .lst zs) → (∀ zs, o ≠ .dK zs) → a ≠ p := fun o e n1 n2 q => by
    subst q
    rcases c with ⟨zs, c⟩ | ⟨zs, c⟩ <;> rw [e] at c
    · exact n1 zs (Option.some.inj c)
    · exact n2 zs (Option.some.inj c)
  rcases h with (h | ⟨o, h⟩) | h
  · exact .inl (.inl (b _ _ (ne _ h (fun _ => nofun) (fun _ => nofun)) h))
  · exact .inl (.inr ⟨o, b _ _ (ne _ h (fun _ => nofun) (fun _ => nofun)) h⟩)
  · exact .inr h
theorem Chg.frz {H H' : Hp} {p a : Addr} {o : Obj} {u : HO} (c : Chg H p) (b : But p H H') (h : H a = some (.frz o u)) : H' a = some (.frz o u) := by
  refine b _ _ (fun q => ?_) h
  subst q
  rcases c with ⟨zs, c⟩ | ⟨zs, c⟩ <;> (rw [h] at c; cases c)
mutual
theorem dp_but {K : PySem.W.Frag} {H H' : Hp} {p : Addr} (c : Chg H p) (s : But p H H') : ∀ (d : PyData) (v : V), noL d = true → Dp K H v d → Dp K H' v d
  | .none, _, _, h => by cases h; exact .non
  | .bool b, _, _, h => by cases h; exact .bl b
  | .int i, _, _, h => by cases h; exact .int i
  | .str x, _, _, h => by cases h; exact .str x
  | .list ds, _, n, h => by cases n
  | .tuple ds, _, n, h => by cases h with | tup a b => exact .tup (c.tup s a) (dpAll_but c s ds _ n b)
  | .dict kvs, _, _, h => by cases h
theorem dpAll_but {K : PySem.W.Frag} {H H' : Hp} {p : Addr} (c : Chg H p) (s : But p H H') : ∀ (ds : List PyData) (vs : List V), noLs ds = true → DpAll K H vs ds → DpAll K H' vs ds
  | [], _, _, h => by cases h; exact .nil
  | d :: ds, _, n, h => by
    cases h with
    | cons a b =>
      have n2 := (Bool.and_eq_true _ _).mp n
      exact .cons (dp_but c s d _ n2.1 a) (dpAll_but c s ds _ n2.2 b)
end
theorem Pen.chg {K : PySem.W.Frag} {H : Hp} {p : Addr} (h : Pen K H p) : Chg H p := by
  obtain ⟨c, ns, i, m, h1, _⟩ := h
  exact .inl ⟨_, h1⟩
/-! matrices -/
abbrev Mx := List (List Int)
def rowD (r : List Int) : PyData := .tuple (r.map PyData.int)
def mat (M : Mx) : PyData := .tuple (M.map rowD)
def ent (M : Mx) : Fm := fun i j => (M.getD i []).getD j 0
structure Sq (n : Nat) (M : Mx) : Prop where
  h : M.length = n
  w : ∀ r ∈ M, r.length = n
def Rs (q : Int) (n : Nat) (M : Mx) : Prop := ∀ i j, i < n → j < n → 0 ≤ ent M i j ∧ ent M i j < q
theorem noL_row (r : List Int) : noL (rowD r) = true := by
  show noLs (r.map PyData.int) = true
  induction r with
  | nil => rfl
  | cons a r ih => exact ih
theorem noL_mat (M : Mx) : noL (mat M) = true := by
  show noLs (M.map rowD) = true
  induction M with
  | nil => rfl
  | cons a r ih =>
    show (noL (rowD a) && noLs (r.map rowD)) = true
    rw [noL_row, ih]
    rfl
theorem canLay_mat (M : Mx) : PyData.canLayAll0 (M.map rowD) = true := by
  induction M with
  | nil => rfl
  | cons a r ih =>
    show (PyData.canLayAll0 (a.map PyData.int) && PyData.canLayAll0 (r.map rowD)) = true
    rw [lay_ints, ih]
    rfl
theorem depth_mat (M : Mx) : PyData.depthAll (M.map rowD) ≤ 1 := by
  induction M with
  | nil => exact Nat.zero_le _
  | cons a r ih =>
    show max (PyData.depthAll (a.map PyData.int) + 1) (PyData.depthAll (r.map rowD)) ≤ 1
    rw [depth_ints]
    omega
theorem shaped_mat (M : Mx) : SeqAt.shaped (mat M) = true := by
  show (PyData.canLayAll0 (M.map rowD) && decide (PyData.depthAll (M.map rowD) + 1 ≤ 64)) = true
  rw [canLay_mat, decide_eq_true (by have := depth_mat M; omega)]
  rfl
theorem shaped_row (r : List Int) : SeqAt.shaped (rowD r) = true := by
  show (PyData.canLayAll0 (r.map PyData.int) && decide (PyData.depthAll (r.map PyData.int) + 1 ≤ 64)) = true
  rw [lay_ints, depth_ints]
  rfl
theorem eqv_same {d : PyData} (h : SeqAt.shaped d = true) : PyData.eqv d d = true := SeqAt.eqv_refl d (SeqAt.canLay_of_shaped h)
theorem mx_ext {n : Nat} {M N : Mx} (a : Sq n M) (b : Sq n N) (h : ∀ i j, i < n → j < n → ent M i j = ent N i j) : M = N := by
  refine List.ext_getElem (a.h.trans b.h.symm) fun i h1 h2 => ?_
  have r1 := a.w _ (List.getElem_mem h1)
  have r2 := b.w _ (List.getElem_mem h2)
  refine List.ext_getElem (r1.trans r2.symm) fun j h3 h4 => ?_
  have e := h i j (by rw [← a.h]; exact h1) (by rw [← r1]; exact h3)
  unfold ent at e
  simpa only [List.getD_eq_getElem?_getD, List.getElem?_eq_getElem h1, List.getElem?_eq_getElem h2, Option.getD_some, List.getElem?_eq_getElem h3, List.getElem?_eq_getElem h4] using e
/-- a matrix's row, an entry, as the heap has them -/
theorem mat_row {K : PySem.W.Frag} {H : Hp} {v : V} {M : Mx} (h : Dp K H v (mat M)) : ∃ (a : Addr) (xs : List V), v = .ref a ∧ SqT K H a xs ∧ xs.length = M.length ∧ ∀ (i : Nat) (r : List Int), M[i]? = some r → ∃ t : Addr, xs[i]? = some (.ref t) ∧ SqT K H t (r.map V.int) := by
  obtain ⟨a, xs, e, hs, hd⟩ := dp_tuple h
  refine ⟨a, xs, e, hs, by rw [DpAll.len hd, List.length_map], fun i r hr => ?_⟩
  obtain ⟨v, e1, k⟩ := DpAll.get (i := i) (d := rowD r) hd (by rw [List.getElem?_map, hr]; rfl)
  obtain ⟨t, ys, rfl, k1, k2⟩ := dp_tuple (ds := r.map PyData.int) k
  rw [dp_ints_eq k2] at k1
  exact ⟨t, e1, k1⟩
theorem dp_row {K : PySem.W.Frag} {H : Hp} {t : Addr} {r : List Int} (h : SqT K H t (r.map V.int)) : Dp K H (.ref t) (rowD r) := .tup h (dp_ints K H r)
theorem row_get {n : Nat} {M : Mx} (h : Sq n M) {i : Nat} (hi : i < n) : ∃ r, M[i]? = some r ∧ r.length = n ∧ ∀ j, j < n → r[j]? = some (ent M i j) := by
  have h1 : i < M.length := by rw [h.h]; exact hi
  refine ⟨M[i], List.getElem?_eq_getElem h1, h.w _ (List.getElem_mem h1), fun j hj => ?_⟩
  have h2 : j < (M[i]).length := by rw [h.w _ (List.getElem_mem h1)]; exact hj
  unfold ent
  rw [List.getD_eq_getElem?_getD, List.getD_eq_getElem?_getD, List.getElem?_eq_getElem h1, Option.getD_some, List.getElem?_eq_getElem h2]
  rfl
theorem at_of {xs : List Int} {j : Nat} {x : Int} (h : xs[j]? = some x) : atI (xs.map V.int) (j : Int) = some (.int x) := atI_nat (by rw [List.getElem?_map, h]; rfl)
/-! what is shown -/
section
variable {X : Cx}
def rRepr (K : PySem.W.Frag) : List V → Hp → VK → Prop := fun xs H Q => ∃ a d, xs = [.ref a] ∧ Dp K H (.ref a) d ∧ d.hasDict = false ∧ d.showable = true ∧ d.depth ≤ 32 ∧ d.shown.length ≤ sizeLine ∧ Q (.str d.shown) H
theorem call_reprD (hg : X.A.guards = some []) (hu : X.A.units + 64 < cLine) : CallR X (.builtin "repr") (rRepr X.K) := by
  intro pins s σ H xs us Q I r h
  obtain ⟨a, d, rfl, hd, n1, n2, n3, n4, q⟩ := h
  obtain ⟨u, rfl, ru⟩ := vals1 r
  obtain rfl : u = Value.ref a := ru
  obtain ⟨as, rd⟩ := Dp.reads I d _ _ hd rfl
  exact repr_of_reads' rd n2 (PyData.noDict_hsm n1) hg (by omega) (fun _ _ e => e) (fun h' u tk hk => ⟨.str d.shown, H, I.kept hk, ⟨u, rfl⟩, q⟩) n4
end
end Vx

namespace Vx
open PySem PySem.Spec PyProof.Rows L2
/-! a matrix of small residues can be shown -/
theorem small_int {x : Int} (h0 : 0 ≤ x) (h : x < 1000000) : PyData.weight (.int x) ≤ 21 ∧ PyData.showable (.int x) = true ∧ PyData.intsShort 13 (.int x) = true := by
  have l : x.natAbs.log2 < 20 := by
    by_cases e : x.natAbs = 0
    · rw [e]; decide
    · exact (Nat.log2_lt e).mpr (by omega)
  refine ⟨?_, decide_eq_true (Nat.lt_of_lt_of_le l (by decide)), ?_⟩
  · show (if (x == 0) = true then 0 else x.natAbs.log2 + 1) ≤ 21
    split <;> omega
  · exact decide_eq_true (PyData.shown_int_le (Nat.lt_of_lt_of_le (show x.natAbs < 1000000 by omega) (by decide)))
theorem small_row {r : List Int} (h : ∀ x ∈ r, 0 ≤ x ∧ x < 1000000) : PyData.weightAll (r.map PyData.int) ≤ 22 * r.length ∧ PyData.showableAll (r.map PyData.int) = true ∧ PyData.intsShortAll 13 (r.map PyData.int) = true := by
  induction r with
  | nil => exact ⟨Nat.le_refl _, rfl, rfl⟩
  | cons a r ih =>
    obtain ⟨h1, h2, h3⟩ := ih fun x hx => h x (List.mem_cons_of_mem _ hx)
    obtain ⟨k1, k2, k3⟩ := small_int (h a List.mem_cons_self).1 (h a List.mem_cons_self).2
    refine ⟨?_, (Bool.and_eq_true _ _).mpr ⟨k2, h2⟩, (Bool.and_eq_true _ _).mpr ⟨k3, h3⟩⟩
    simp only [List.map_cons, PyData.weightAll, List.length_cons]
    omega
theorem small_rows {M : Mx} {n : Nat} (hw : ∀ r ∈ M, r.length = n) (h : ∀ r ∈ M, ∀ x ∈ r, 0 ≤ x ∧ x < 1000000) :
    PyData.weightAll (M.map rowD) ≤ (22 * n + 1) * M.length ∧ PyData.showableAll (M.map rowD) = true ∧ PyData.intsShortAll 13 (M.map rowD) = true := by
  induction M with
  | nil => exact ⟨Nat.zero_le _, rfl, rfl⟩
  | cons a r ih =>
    obtain ⟨h1, h2, h3⟩ := ih (fun x hx => hw x (List.mem_cons_of_mem _ hx)) fun x hx => h x (List.mem_cons_of_mem _ hx)
    obtain ⟨k1, k2, k3⟩ := small_row (h a List.mem_cons_self)
    have e := hw a List.mem_cons_self
    refine ⟨?_, (Bool.and_eq_true _ _).mpr ⟨k2, h2⟩, (Bool.and_eq_true _ _).mpr ⟨k3, h3⟩⟩
    rw [e] at k1
    simp only [List.map_cons, PyData.weightAll, List.length_cons, rowD, PyData.weight]
    rw [Nat.mul_add]
    omega
theorem rs_small {q : Int} {n : Nat} {M : Mx} (hs : Sq n M) (h : Rs q n M) (hq : q ≤ 1000) : ∀ r ∈ M, ∀ x ∈ r, 0 ≤ x ∧ x < 1000000 := by
  intro r hr x hx
  obtain ⟨i, hi, rfl⟩ := List.mem_iff_getElem.mp hr
  obtain ⟨j, hj, rfl⟩ := List.mem_iff_getElem.mp hx
  have h1 : i < n := by rw [← hs.h]; exact hi
  have h2 : j < n := by rw [← hs.w _ (List.getElem_mem hi)]; exact hj
  have e : ent M i j = M[i][j] := by
    unfold ent
    simp only [List.getD_eq_getElem?_getD, List.getElem?_eq_getElem hi, Option.getD_some, List.getElem?_eq_getElem hj]
  have := h i j h1 h2
  rw [e] at this
  omega
/-- what repr asks of a matrix -/
theorem mat_shows {q : Int} {n : Nat} {M : Mx} (hs : Sq n M) (h : Rs q n M) (hq : q ≤ 1000) (hn : n ≤ 30) : (mat M).hasDict = false ∧ (mat M).showable = true ∧ (mat M).depth ≤ 32 ∧ (mat M).shown.length ≤ sizeLine := by
  obtain ⟨k1, k2, k3⟩ := small_rows hs.w (rs_small hs h hq)
  have d := depth_mat M
  have lay : PyData.layable0 (mat M) = true := by
    show (PyData.canLayAll0 (M.map rowD) && decide (PyData.depthAll (M.map rowD) + 1 ≤ 64) && decide (PyData.weightAll (M.map rowD) ≤ 2 ^ 20)) = true
    rw [hs.h] at k1
    have : (22 * n + 1) * n ≤ (22 * 30 + 1) * 30 := Nat.mul_le_mul (by omega) hn
    rw [canLay_mat, decide_eq_true (by omega), decide_eq_true (Nat.le_trans k1 (Nat.le_trans this (by decide)))]
    rfl
  refine ⟨PyData.hasDict_of_layable lay, k2, ?_, PyData.shown_fits_of_layable0 (B := 13) (by decide) (by decide) lay k3⟩
  show PyData.depthAll (M.map rowD) + 1 ≤ 32
  omega
end Vx

namespace Vx
open PySem PySem.Spec PyProof.Rows L2
/-! comprehensions that make data -/
theorem same_mut {H H' : Hp} {p : Addr} {o : HO} (e : Same H H') (h : H p = none) : Same H (upd H' p o) := fun a u ha => by
  rw [upd_ne (ne_of_none ha h)]
  exact e a u ha
/-- from H' to H4: data without lists is kept, and the list at D -/
structure Stay (K : PySem.W.Frag) (D : Addr) (H' H4 : Hp) : Prop where
  d : H4 D = H' D
  k : ∀ vs ds, noLs ds = true → DpAll K H' vs ds → DpAll K H4 vs ds
theorem Stay.same {K : PySem.W.Frag} {D : Addr} {H' H4 : Hp} {o : HO} (s : Same H' H4) (h : H' D = some o) : Stay K D H' H4 := ⟨(s _ _ h).trans h.symm, fun vs ds _ x => dpAll_same s ds vs x⟩
theorem Stay.but {K : PySem.W.Frag} {p D : Addr} {H' H4 : Hp} {o : HO} (s : But p H' H4) (c : Chg H' p) (h : H' D = some o) (n : D ≠ p) : Stay K D H' H4 := ⟨(s _ _ n h).trans h.symm, fun vs ds e x => dpAll_but c s ds vs e x⟩
/-- i items are made: their data -/
def Made (K : PySem.W.Frag) (D : Addr) (f : Nat → PyData → Prop) (G : Hp → Prop) (i : Nat) (H : Hp) : Prop :=
  ∃ acc ds, H D = some (.lst acc) ∧ DpAll K H acc ds ∧ noLs ds = true ∧ ds.length = i ∧ (∀ k d, ds[k]? = some d → f k d) ∧ G H
theorem noLs_app : ∀ {a b : List PyData}, noLs a = true → noLs b = true → noLs (a ++ b) = true
  | [], _, _, h => h
  | x :: a, b, h, k => by
    have h2 := (Bool.and_eq_true _ _).mp h
    exact (Bool.and_eq_true _ _).mpr ⟨h2.1, noLs_app h2.2 k⟩
theorem Made.start {K : PySem.W.Frag} {D : Addr} {f : Nat → PyData → Prop} {G : Hp → Prop} {H : Hp} (g : G (upd H D (.lst []))) : Made K D f G 0 (upd H D (.lst [])) :=
  ⟨[], [], upd_same, .nil, rfl, rfl, fun k d h => by simp at h, g⟩
theorem Made.next {K : PySem.W.Frag} {D : Addr} {f : Nat → PyData → Prop} {G : Hp → Prop} {i : Nat} {H' H4 : Hp} {y : V} {d : PyData} (m : Made K D f G i H') (s : Stay K D H' H4) (n : noL d = true) (hd : Dp K H4 y d) (hf : f i d) (hi : i ≤ 100000)
    (g : ∀ acc, G (upd H4 D (.lst acc))) : ∃ acc, H4 D = some (.lst acc) ∧ acc.length < sizeLine ∧ Made K D f G (i + 1) (upd H4 D (.lst (acc ++ [y]))) := by
  obtain ⟨acc, ds, e, k, no, len, hk, _⟩ := m
  have e4 : H4 D = some (.lst acc) := s.d.trans e
  have c4 : Chg H4 D := .inl ⟨acc, e4⟩
  have k4 := s.k _ _ no k
  have n1 : noLs [d] = true := by show (noL d && true) = true; rw [n]; rfl
  have n2 := noLs_app no n1
  refine ⟨acc, e4, ?_, _, ds ++ [d], upd_same, dpAll_but c4 .upd _ _ n2 (DpAll.app k4 (.cons hd .nil)), n2, by rw [List.length_append, len]; rfl, fun q d' h => ?_, g _⟩
  · rw [DpAll.len k4, len]
    exact Nat.lt_of_le_of_lt hi (by decide)
  · by_cases l : q < ds.length
    · rw [List.getElem?_append_left l] at h
      exact hk q d' h
    · rw [List.getElem?_append_right (by omega)] at h
      have : q = ds.length := by
        by_cases z : q - ds.length = 0
        · omega
        · rw [List.getElem?_eq_none (by simp; omega)] at h
          cases h
      subst this
      rw [Nat.sub_self] at h
      obtain rfl : d = d' := by simpa using h
      rw [len]
      exact hf
/-- the turns of a comprehension over I whose target is the name at j, without a test -/
def LcOf (I : It) (j : Nat) (te : TE) (vs : List Nat) (σ : L2.St) (H1 : Hp) (D : Addr) (Qd : Hp → Prop) : Prop :=
  ∃ U : Nat → Nat → Hp → Prop, (∃ k, U 0 k (upd H1 D (.lst []))) ∧ ∀ n k h, U n k h → (I.stop n h ∧ Qd h) ∨ (I.go n h ∧ ∃ Z : Hp → Prop, (∀ h', Z h' → ∃ k', k' < k ∧ U (n + 1) k' h') ∧
    ∀ z h', I.yld n h z h' → gName j z (wipe σ vs) h' fun ρ h2 => wipe ρ vs = wipe σ vs ∧ tYes ρ h2 fun c h3 => if c = true then te ρ h3 fun y h4 => ∃ made, h4 D = some (.lst made) ∧ made.length < sizeLine ∧ Z (upd h4 D (.lst (made ++ [y]))) else Z h3)
theorem lc_rangeD {K : PySem.W.Frag} {lo : Int} {n j : Nat} {te : TE} {vs : List Nat} {σ : L2.St} {H1 : Hp} {D : Addr} {Qd : Hp → Prop} (G : Hp → Prop) (f : Nat → PyData → Prop) (hn : n ≤ 100000) (h0 : G (upd H1 D (.lst [])))
    (hw : ∀ v, wipe ((wipe σ vs).set j (some v)) vs = wipe σ vs)
    (hs : ∀ i H', i < n → Made K D f G i H' → ∀ Q : VK, (∀ y d H4, Stay K D H' H4 → noL d = true → Dp K H4 y d → f i d → (∀ acc, G (upd H4 D (.lst acc))) → Q y H4) → te ((wipe σ vs).set j (some (.int (lo + i)))) H' Q)
    (hd : ∀ H, Made K D f G n H → Qd H) :
    LcOf (Itr lo n) j te vs σ H1 D Qd := by
  refine lc_range (Made K D f G) (.start h0) (fun i H' hi m => ?_) hd
  refine ⟨hw _, ?_⟩
  show te _ H' _
  exact hs i H' hi m _ fun y d H4 s no hd hf g => m.next s no hd hf (by omega) g
/-- what a comprehension over anything says of a turn: for lists and tuples -/
theorem lc_tupD {K : PySem.W.Frag} {a : Addr} {xs : List V} {j : Nat} {te : TE} {vs : List Nat} {σ : L2.St} {H1 : Hp} {D : Addr} {Qd : Hp → Prop} (G : Hp → Prop) (f : Nat → PyData → Prop) (hn : xs.length ≤ 100000) (h0 : G (upd H1 D (.lst [])))
    (hl : ∀ H', G H' → SqT K H' a xs) (hw : ∀ v, wipe ((wipe σ vs).set j (some v)) vs = wipe σ vs)
    (hs : ∀ i x H', xs[i]? = some x → Made K D f G i H' → ∀ Q : VK, (∀ y d H4, Stay K D H' H4 → noL d = true → Dp K H4 y d → f i d → (∀ acc, G (upd H4 D (.lst acc))) → Q y H4) → te ((wipe σ vs).set j (some x)) H' Q)
    (hd : ∀ H, Made K D f G xs.length H → Qd H) :
    LcOf (Itt K a) j te vs σ H1 D Qd := by
  refine lc_tup (K := K) (a := a) (xs := xs) (Made K D f G) (.start h0) (fun i H' _ m => hl H' m.choose_spec.choose_spec.2.2.2.2.2) (fun i x H' hi m => ?_) hd
  refine ⟨hw _, ?_⟩
  show te _ H' _
  have l := (List.getElem?_eq_some_iff.mp hi).1
  exact hs i x H' hi m _ fun y d H4 s no hd hf g => m.next s no hd hf (by omega) g
theorem lc_listD {K : PySem.W.Frag} {a : Addr} {xs : List V} {j : Nat} {te : TE} {vs : List Nat} {σ : L2.St} {H1 : Hp} {D : Addr} {Qd : Hp → Prop} (G : Hp → Prop) (f : Nat → PyData → Prop) (hn : xs.length ≤ 100000) (h0 : G (upd H1 D (.lst [])))
    (hl : ∀ H', G H' → SqL K H' a xs) (hw : ∀ v, wipe ((wipe σ vs).set j (some v)) vs = wipe σ vs)
    (hs : ∀ i x H', xs[i]? = some x → Made K D f G i H' → ∀ Q : VK, (∀ y d H4, Stay K D H' H4 → noL d = true → Dp K H4 y d → f i d → (∀ acc, G (upd H4 D (.lst acc))) → Q y H4) → te ((wipe σ vs).set j (some x)) H' Q)
    (hd : ∀ H, Made K D f G xs.length H → Qd H) :
    LcOf (Itl K a) j te vs σ H1 D Qd := by
  refine lc_list (K := K) (a := a) (xs := xs) (Made K D f G) (.start h0) (fun i H' _ m => hl H' m.choose_spec.choose_spec.2.2.2.2.2) (fun i x H' hi m => ?_) hd
  refine ⟨hw _, ?_⟩
  show te _ H' _
  have l := (List.getElem?_eq_some_iff.mp hi).1
  exact hs i x H' hi m _ fun y d H4 s no hd hf g => m.next s no hd hf (by omega) g
/-- the data of a made list as a function of the place -/
theorem made_eq {ds : List PyData} {n : Nat} {g : Nat → PyData} (hl : ds.length = n) (h : ∀ k d, ds[k]? = some d → d = g k) : ds = (List.range n).map g := by
  refine List.ext_getElem (by rw [hl, List.length_map, List.length_range]) fun i h1 h2 => ?_
  rw [h i _ (List.getElem?_eq_getElem h1), List.getElem_map, List.getElem_range]
/-- some new data -/
def someD (K : PySem.W.Frag) (d : PyData) (H : Hp) (Q : VK) : Prop := ∀ (a : Addr) (H' : Hp), Same H H' → Dp K H' (.ref a) d → Q (.ref a) H'
/-- o[i] of a list, at a place counted from the left, by values -/
def rGetN (K : PySem.W.Frag) : V → V → Hp → VK → Prop := fun x y H Q => ∃ (p : Addr) (xs : List V) (j : Nat) (v : V), x = .ref p ∧ y = .int (j : Int) ∧ SqL K H p xs ∧ xs[j]? = some v ∧ Q v H
theorem get_list {X : Cx} : PGet X (rGetN X.K) := by
  intro pins s σ H o i ov iv Q I ro ri h
  obtain ⟨p, xs, j, v, rfl, rfl, hq, he, q⟩ := h
  cases ro
  obtain ⟨t, rfl⟩ := ri
  obtain ⟨its, r, pl, hz⟩ := I.list hq
  obtain ⟨w, ew, rw'⟩ := r.get he
  have hl := (List.getElem?_eq_some_iff.mp he).1
  have hn := line63
  exact wpAny_getItem_list pl.isList (by omega) (by omega) (by simpa using ew) ⟨v, H, I, rw', q⟩
end Vx

namespace Vx
open PySem PySem.Spec PyProof.Rows L2
/-! rows and matrices that are written by rules -/
def fnRow (n : Nat) (f : Nat → Int) : List Int := (List.range n).map f
def fnMx (n : Nat) (f : Fm) : Mx := (List.range n).map fun i => fnRow n (f i)
theorem fnRow_get {n j : Nat} {f : Nat → Int} (h : j < n) : (fnRow n f)[j]? = some (f j) := by
  unfold fnRow
  rw [List.getElem?_map, List.getElem?_range h]
  rfl
theorem fnRow_len (n : Nat) (f : Nat → Int) : (fnRow n f).length = n := by unfold fnRow; rw [List.length_map, List.length_range]
theorem fnMx_sq (n : Nat) (f : Fm) : Sq n (fnMx n f) := by
  constructor
  · unfold fnMx
    rw [List.length_map, List.length_range]
  · intro r hr
    unfold fnMx at hr
    obtain ⟨i, _, rfl⟩ := List.mem_map.mp hr
    exact fnRow_len _ _
theorem fnMx_ent {n : Nat} (f : Fm) {i j : Nat} (hi : i < n) (hj : j < n) : ent (fnMx n f) i j = f i j := by
  unfold ent fnMx
  rw [List.getD_eq_getElem?_getD, List.getD_eq_getElem?_getD, List.getElem?_map, List.getElem?_range hi]
  show (fnRow n (f i))[j]?.getD 0 = f i j
  rw [fnRow_get hj]
  rfl
/-- a matrix from its rows -/
theorem mx_rows {n : Nat} {M : Mx} (h : M.length = n) (f : Fm) (k : ∀ i r, M[i]? = some r → r = fnRow n (f i)) : M = fnMx n f := by
  show M = (List.range n).map fun i => fnRow n (f i)
  refine List.ext_getElem (by rw [h, List.length_map, List.length_range]) fun i h1 h2 => ?_
  rw [k i _ (List.getElem?_eq_getElem h1), List.getElem_map, List.getElem_range]
/-- a row of a unitriangular matrix of residues -/
def UtRow (q : Int) (n i : Nat) (r : List Int) : Prop := r.length = n ∧ (∀ j, j < i → r[j]? = some 0) ∧ r[i]? = some 1 ∧ ∀ (j : Nat) (x : Int), r[j]? = some x → 0 ≤ x ∧ x < q
structure UT (q : Int) (n : Nat) (M : Mx) : Prop where
  s : Sq n M
  r : Rs q n M
  u : Ut n (ent M)
theorem ut_rows {q : Int} {n : Nat} {M : Mx} (h : M.length = n) (k : ∀ i r, M[i]? = some r → UtRow q n i r) : UT q n M := by
  have row : ∀ i, i < n → ∃ r, M[i]? = some r ∧ UtRow q n i r := fun i hi => ⟨M[i], List.getElem?_eq_getElem (by omega), k i _ (List.getElem?_eq_getElem (by omega))⟩
  have en : ∀ i j, i < n → j < n → ∃ x, ent M i j = x ∧ ∃ r, UtRow q n i r ∧ r[j]? = some x := fun i j hi hj => by
    obtain ⟨r, e, u⟩ := row i hi
    have hl := u.1
    refine ⟨r[j], ?_, r, u, List.getElem?_eq_getElem (by omega)⟩
    unfold ent
    rw [List.getD_eq_getElem?_getD, List.getD_eq_getElem?_getD, e, Option.getD_some, List.getElem?_eq_getElem (by omega)]
    rfl
  refine ⟨⟨h, fun r hr => ?_⟩, fun i j hi hj => ?_, fun i j hi hj => ⟨fun l => ?_, fun l => ?_⟩⟩
  · obtain ⟨i, hi, rfl⟩ := List.mem_iff_getElem.mp hr
    exact (k i _ (List.getElem?_eq_getElem hi)).1
  · obtain ⟨x, e, r, u, ex⟩ := en i j hi hj
    rw [e]
    exact u.2.2.2 j x ex
  · obtain ⟨x, e, r, u, ex⟩ := en i j hi hj
    rw [u.2.1 j l] at ex
    rw [e]
    exact (Option.some.inj ex).symm
  · obtain ⟨x, e, r, u, ex⟩ := en i j hi hj
    rw [l, u.2.2.1] at ex
    rw [e]
    exact (Option.some.inj ex).symm
/-- zeros, a one, residues -/
theorem ut_row_of {q : Int} {n i : Nat} {rest : List Int} (hq : 1 < q) (hi : i < n) (hl : rest.length = n - (i + 1)) (hr : ∀ x ∈ rest, 0 ≤ x ∧ x < q) : UtRow q n i (List.replicate i 0 ++ [1] ++ rest) := by
  have l1 : (List.replicate i (0 : Int)).length = i := List.length_replicate
  have l2 : (List.replicate i (0 : Int) ++ [1]).length = i + 1 := by rw [List.length_append, l1]; rfl
  refine ⟨by rw [List.length_append, l2, hl]; omega, fun j hj => ?_, ?_, fun j x h => ?_⟩
  · rw [List.getElem?_append_left (by omega), List.getElem?_append_left (by omega), List.getElem?_replicate, if_pos hj]
  · rw [List.getElem?_append_left (by omega), List.getElem?_append_right (by omega), l1, Nat.sub_self]
    try rfl
  · have m := List.mem_of_getElem? h
    rcases List.mem_append.mp m with m | m
    · rcases List.mem_append.mp m with m | m
      · rw [List.eq_of_mem_replicate m]; omega
      · rw [List.mem_singleton.mp m]; omega
    · exact hr x m
/-- the inverse, as its properties say it -/
structure InvOf (q : Int) (n : Nat) (A : Fm) (B : Mx) : Prop where
  u : UT q n B
  r : RI q n A (ent B)
theorem InvOf.left {q : Int} {n : Nat} {A : Fm} {B : Mx} (h : InvOf q n A B) : RI q n (ent B) A := ut_left h.u.u h.r
theorem InvOf.unique {q : Int} {n : Nat} {A : Fm} {B C : Mx} (h : InvOf q n A B) (k : InvOf q n A C) : B = C :=
  mx_ext h.u.s k.u.s fun i j hi hj => ((h.r.unique k.r h.left) i j hi hj).eq (h.u.r i j hi hj).1 (h.u.r i j hi hj).2 (k.u.r i j hi hj).1 (k.u.r i j hi hj).2
/-- the product's matrix -/
def prod (q : Int) (n : Nat) (A B : Fm) : Mx := fnMx n fun i j => mm n A B i j % q
theorem prod_one {q : Int} {n : Nat} {A B : Fm} (hq : 1 < q) (h : RI q n A B) : prod q n A B = fnMx n dl := by
  refine mx_ext (fnMx_sq _ _) (fnMx_sq _ _) fun i j hi hj => ?_
  unfold prod
  rw [fnMx_ent _ hi hj, fnMx_ent _ hi hj]
  have e : mm n A B i j % q = dl i j % q := h i j hi hj
  rw [e]
  show (if i = j then (1 : Int) else 0) % q = if i = j then 1 else 0
  split
  · exact Int.emod_eq_of_lt (by omega) hq
  · exact Int.emod_eq_of_lt (by omega) (by omega)
/-- rows that stand in a list make a matrix's data -/
theorem rows_data {K : PySem.W.Frag} {H : Hp} {n : Nat} {xs : List V} {B : Fm} (hl : xs.length = n) (h : ∀ k, k < n → ∃ t : Addr, xs[k]? = some (.ref t) ∧ SqT K H t ((fnRow n (B k)).map V.int)) : DpAll K H xs ((fnMx n B).map rowD) := by
  refine dpAll_of (by rw [hl, List.length_map, (fnMx_sq n B).h]) fun i d hd => ?_
  have hi : i < n := by
    have := (List.getElem?_eq_some_iff.mp hd).1
    rwa [List.length_map, (fnMx_sq n B).h] at this
  obtain ⟨t, e, k⟩ := h i hi
  refine ⟨.ref t, e, ?_⟩
  rw [List.getElem?_map, show (fnMx n B)[i]? = some (fnRow n (B i)) by unfold fnMx; rw [List.getElem?_map, List.getElem?_range hi]; rfl] at hd
  obtain rfl : rowD (fnRow n (B i)) = d := Option.some.inj hd
  exact dp_row k
theorem fnMx_ents {n : Nat} {M : Mx} (h : Sq n M) : M = fnMx n (ent M) := mx_ext h (fnMx_sq _ _) fun i j hi hj => (fnMx_ent _ hi hj).symm
theorem row_ents {n : Nat} {M : Mx} (h : Sq n M) {i : Nat} (hi : i < n) : M[i]? = some (fnRow n (ent M i)) := by
  have e := fnMx_ents h
  have : (fnMx n (ent M))[i]? = some (fnRow n (ent M i)) := by unfold fnMx; rw [List.getElem?_map, List.getElem?_range hi]; rfl
  rw [← e] at this
  exact this
end Vx

namespace Vx
open PySem PySem.Spec PyProof.Rows L2
/-! enumerate over a tuple -/
theorem meets_enum1 {v : Value} {o : Obj} {H : Heap → Prop} (B : Begins v o H) :
    Meets (Builtin.«enumerate.__new__» ⟨[.type "enumerate", v], []⟩) (fun _ R s => H s.heap ∧
      R (.ok (.ret (.ref (s.heap.push o).objs.size))) { s with heap := (s.heap.push o).push { cls := .type "enumerate", data := .fields #[.none, .bool false, .ref s.heap.objs.size, rawInt 0, .none, .none] } }) := by
  refine .of_wp fun prog w A R s h => ?_
  obtain ⟨hp, g, d, tk, os⟩ := s
  obtain ⟨h1, h⟩ := h
  have isE := sub_enumerate
  have it : ∀ {A' : Around} {E : Value → Shared → Prop} {Q : Value → Shared → Prop}, Q (.ref hp.objs.size) ⟨hp.push o, g, d, tk, os⟩ → wpAny (model prog w) A' (pyIter v) Q E ⟨hp, g, d, tk, os⟩ := fun q => B.iter prog w _ _ ⟨hp, g, d, tk, os⟩ _ h1 q
  wp_walk using it
  refine wpAny_stack_any fun st => wpAny_pure ?_
  split
  · rename_i c _ _ _ _ _
    cases (c == Value.type "enumerate") <;> (wp_walk using it; exact ⟨_, rfl, h⟩)
  · wp_walk using it
    exact ⟨_, rfl, h⟩
theorem enum_of {prog : Program} {w : World} {A : Around} {E : Value → Shared → Prop} {s : Shared} {v : Value} {o : Obj} {H : Heap → Prop} {Q : Value → Shared → Prop} (B : Begins v o H) (h1 : H s.heap)
    (h : ∀ h', IsEnum h' (s.heap.objs.size + 1) s.heap.objs.size 0 .none → h'.get? s.heap.objs.size = some o → (∀ b u, s.heap.get? b = some u → h'.get? b = some u) → Q (.ref (s.heap.objs.size + 1)) { s with heap := h' }) :
    wpAny (model prog w) A (call (.type "enumerate") [v]) Q E s := by
  refine callType_new F.called_enumerate (by decide) (F.typeCall_enumerate_1 _) (F.newCall_enumerate_1 _) (fun obj => F.args_object_init_2 obj _) F.entry_enumerate_new (meets_enum1 B) ⟨h1, ?_⟩
  have z1 : (s.heap.push o).objs.size = s.heap.objs.size + 1 := Heap.size_push ..
  show _ ∧ _
  rw [z1]
  have en : IsEnum ((s.heap.push o).push { cls := .type "enumerate", data := .fields #[.none, .bool false, .ref s.heap.objs.size, rawInt 0, .none, .none] }) (s.heap.objs.size + 1) s.heap.objs.size 0 .none := by
    have := Heap.get?_push_size (s.heap.push o) (o := { cls := .type "enumerate", data := .fields #[.none, .bool false, .ref s.heap.objs.size, rawInt 0, .none, .none] }) rfl
    rwa [z1] at this
  exact ⟨⟨_, en, rfl⟩, h _ en (Heap.get?_push_of_some _ (Heap.get?_push_size _ B.free)) fun b u x => Heap.get?_push_of_some _ (Heap.get?_push_of_some _ x)⟩
/-- the tuple at a, each item in a new pair with its place -/
def IteT (K : PySem.W.Frag) (a : Addr) : It :=
  ⟨fun i H => ∃ (xs : List V) (x : V), SqT K H a xs ∧ xs[i]? = some x, fun i H v H' => ∃ T x, v = .ref T ∧ H T = none ∧ H' = upd H T (.tup [.int (i : Nat), x]) ∧ ∀ xs, SqT K H a xs → xs[i]? = some x, fun i H => ∃ xs : List V, SqT K H a xs ∧ xs.length = i⟩
theorem turn_enumT {P : Program} {w : World} {K : PySem.W.Frag} {elts : List Expr} {kk : Nat} {tpos : Pos} (a e it : Addr) (na : a ≠ it) :
    Turn P w K (.Tuple elts kk tpos) (IteT K a) [e, it] e (fun i h => (∃ old, IsEnum h e it ((i : Nat) : Int) old) ∧ h.IsTupleIter it a i ∧ e ≠ it ∧ e ≠ a) where
  mem := List.mem_cons_self
  obj := fun i h st b hb => by
    obtain ⟨⟨old, he⟩, ⟨o, ho, _, hd⟩, _⟩ := st
    rcases List.mem_cons.mp hb with rfl | hb
    · exact ⟨_, he, fun v q => nomatch q⟩
    · obtain rfl := List.mem_singleton.mp hb
      exact ⟨o, ho, fun v q => by rw [hd] at q; cases q⟩
  keep := fun i h h' st k => by
    obtain ⟨⟨old, he⟩, hi, hne⟩ := st
    exact ⟨⟨old, k e List.mem_cons_self _ he⟩, hi.at fun o q => k it (by simp) o q, hne⟩
  item := by
    intro X hP hw hK hc i pins s σ H E I hf st hg
    subst hP hw hK
    obtain ⟨⟨old, he⟩, hit, hne, hna⟩ := st
    obtain ⟨xs, x, hq, hx⟩ := hg
    obtain ⟨its, rv, p, _⟩ := I.tuple hq
    obtain ⟨u, hu, ru⟩ := rv.get hx
    have hel : e < s.heap.objs.size := Heap.lt_size he
    have hil : it < s.heap.objs.size := by
      obtain ⟨_, q, _⟩ := hit
      exact Heap.lt_size q
    have D := Draws.tuple (prog := X.prog) (w := X.w) (A := X.A.in1) (by show X.A.handled = none; exact I.ok.hd hc) it a na its.toArray
    have hlt : i < its.toArray.size := by
      have := (List.getElem?_eq_some_iff.mp hu).1
      rwa [List.size_toArray]
    refine wpAny_pyNext_enum_itemD D he ⟨hit, p⟩ hlt hne (by simp; exact ⟨hne, hna⟩) ?_
    rintro x' h' tk hx' ho ⟨hit', _⟩ hT hsz hk
    obtain rfl : u = x' := by
      rw [show its.toArray[i]? = some u by simpa using hu] at hx'
      exact Option.some.inj hx'
    refine ⟨_, rfl, wpAny_letOwnedTupleGo_enum (s := { s with heap := h', toks := tk + 1 }) ho fun h'' he' sb => ?_⟩
    have hT2 := (sb.2 _ (Nat.ne_of_gt hel)).trans hT
    have new : ObjOk X.prog X.w (upd H s.heap.objs.size (.tup [.int (i : Nat), x])) h'' s.heap.objs.size (.tup [.int (i : Nat), x]) :=
      ⟨by show 2 ≤ sizeLine; decide, [.int i tk, u], .cons ⟨_, rfl⟩ (.cons ru .nil), ⟨_, hT2, rfl, _, rfl⟩⟩
    have other : ∀ b ob, b ∉ [e, it] → s.heap.get? b = some ob → h''.get? b = some ob := fun b ob hb q => by
      have n1 : b ≠ e := fun z => hb (by simp [z])
      have n2 : b ≠ it := fun z => hb (by simp [z])
      exact (sb.2 b n1).trans (hk b ob n1 n2 q)
    have I1 : Inv X pins σ (upd H s.heap.objs.size (.tup [.int (i : Nat), x])) { s with heap := h'', toks := tk + 1 } := I.turnedNew (ch := [e, it]) other hf (Nat.le_refl _) new
    have fresh := I.hok.fresh (Nat.le_refl s.heap.objs.size)
    refine ⟨.ref s.heap.objs.size, _, I1, rfl, ⟨_, x, rfl, fresh, rfl, fun ys hy => by rw [I.tuple_inj hy hq]; exact hx⟩, ⟨⟨u, ?_⟩, hit'.at fun o q => (sb.2 it (Ne.symm hne)).trans q, hne, hna⟩, fun b hb => ?_⟩
    · rw [show ((i + 1 : Nat) : Int) = (i : Int) + 1 by omega]
      exact he'
    · have hb' : b < s.heap.objs.size := by
        rcases List.mem_cons.mp hb with rfl | hb
        · exact hel
        · obtain rfl := List.mem_singleton.mp hb
          exact hil
      rw [upd_ne (Nat.ne_of_lt hb')]
      exact (hf b hb).1
  done := by
    intro X hP hw hK hc i pins s σ H E I hf st hg
    subst hP hw hK
    obtain ⟨⟨old, he⟩, hit, hne, hna⟩ := st
    obtain ⟨xs, hq, hx⟩ := hg
    obtain ⟨its, rv, p, _⟩ := I.tuple hq
    obtain ⟨f0, f1, f2, f3, f4, f5⟩ := hf it (by simp)
    have hl := rv.length
    have st' : s.heap.IsTupleIter it a i := hit
    have hi : i = its.toArray.size := by rw [List.size_toArray, ← hl]; exact hx.symm
    subst hi
    have D := Draws.tuple (prog := X.prog) (w := X.w) (A := X.A.in1) (by show X.A.handled = none; exact I.ok.hd hc) it a na its.toArray
    exact wpAny_pyNext_enum_endD D he ⟨hit, p⟩ fun h' eb => ⟨rfl, I.turned (t' := s.toks) (fun b o hb q => eb b o hb q) f0 f1 f3 f4 f5⟩
  self := fun A i s Q E st h => by
    obtain ⟨⟨_, he⟩, _⟩ := st
    exact wpAny_pyIter_enum he h
def iEnumT (K : PySem.W.Frag) (ta : TA) : TI := fun σ H R => ta σ H fun vs H1 => ∃ a xs, vs = [.ref a] ∧ SqT K H1 a xs ∧ R (IteT K a) H1
theorem pi_enumT {X : Cx} {e : Expr} {ta : TA} {p pos tpos : Pos} {elts : List Expr} {kk : Nat} (hg : Gl X "enumerate") (hm : X.mg "enumerate" = none) (ha : PA X [e] ta) (hs : starEach [e] X.env = [(false, eval e X.env)] := by rfl) :
    PI X (.Tuple elts kk tpos) (.Call (.Name "enumerate" p) [e] [] pos) (iEnumT X.K ta) := by
  constructor
  intro pins s σ H R I h
  refine Call_ (ld_blt I hg hm boot_enumerate (PyProof.Rows.callWith_type1 (thn (ha.run pos pins s σ H _ I h) ?_) hs rfl))
  rintro us s1 ⟨vs, H1, I1, r1, a, xs, rfl, hq, q⟩
  obtain ⟨u, rfl, ru⟩ := vals1 r1
  obtain rfl : u = Value.ref a := ru
  obtain ⟨its, rv, p', _⟩ := I1.tuple hq
  have lt := p'.lt
  refine enum_of (begins_tuple a its.toArray) p' fun h' he hit hk => wpAny_pyIter_enum he ?_
  have I2 : Inv X pins σ H1 { s1 with heap := h' } := I1.kept (t' := s1.toks) hk
  have fp : ∀ b ∈ [s1.heap.objs.size + 1, s1.heap.objs.size], s1.heap.objs.size ≤ b := fun b hb => by
    rcases List.mem_cons.mp hb with rfl | hb
    · exact Nat.le_succ _
    · rw [List.mem_singleton.mp hb]
      exact Nat.le_refl _
  refine ⟨s1.heap.objs.size + 1, [s1.heap.objs.size + 1, s1.heap.objs.size], _, _, H1, rfl, I2, turn_enumT a (s1.heap.objs.size + 1) s1.heap.objs.size (Nat.ne_of_lt lt), ⟨⟨.none, he⟩, ⟨_, hit, rfl, rfl⟩, Nat.succ_ne_self _, Nat.ne_of_gt (Nat.lt_succ_of_lt lt)⟩, fun b hb => I1.fpOk (fp b hb) (I1.hok.fresh (fp b hb)), q⟩
/-- the turns of a for over an iterator J -/
def ForOf (J : It) (g : TG) (tb : TS) (D : Ends) (σ : L2.St) (H : Hp) : Prop :=
  ∃ U : Nat → Nat → L2.St → Hp → Prop, (∃ k, U 0 k σ H) ∧ ∀ n k ρ h, U n k ρ h → (J.stop n h ∧ D.nx ρ h) ∨ (J.go n h ∧ ∃ Z : L2.St → Hp → Prop, (∀ ρ' h', Z ρ' h' → ∃ k', k' < k ∧ U (n + 1) k' ρ' h') ∧
    ∀ z h', J.yld n h z h' → g z ρ h' fun ρ2 h2 => tb { D with nx := Z, ct := Z, bk := D.nx } ρ2 h2)
theorem for_enumT {K : PySem.W.Frag} {a : Addr} {xs : List V} {g : TG} {tb : TS} {D : Ends} {σ : L2.St} {H : Hp} (Pv : Nat → L2.St → Hp → Prop) (h0 : Pv 0 σ H) (hl : ∀ i ρ h, i ≤ xs.length → Pv i ρ h → SqT K h a xs)
    (hs : ∀ i x T ρ h, xs[i]? = some x → Pv i ρ h → h T = none → g (.ref T) ρ (upd h T (.tup [.int (i : Nat), x])) fun ρ2 h2 => tb { D with nx := Pv (i + 1), ct := Pv (i + 1), bk := D.nx } ρ2 h2) (hd : ∀ ρ h, Pv xs.length ρ h → D.nx ρ h) : ForOf (IteT K a) g tb D σ H := by
  refine ⟨fun i m ρ h => m = xs.length - i ∧ i ≤ xs.length ∧ Pv i ρ h, ⟨_, rfl, Nat.zero_le _, h0⟩, ?_⟩
  rintro i m ρ h ⟨rfl, hi, p⟩
  have q := hl i ρ h hi p
  by_cases l : i < xs.length
  · refine .inr ⟨⟨xs, xs[i], q, by simp [l]⟩, Pv (i + 1), fun ρ' h' p' => ⟨xs.length - (i + 1), by omega, rfl, l, p'⟩, ?_⟩
    rintro z h' ⟨T, x, rfl, hT, rfl, hx⟩
    exact hs i x T ρ h (hx xs q) p hT
  · obtain rfl : i = xs.length := by omega
    exact .inl ⟨⟨xs, q, rfl⟩, hd ρ h p⟩
/-! the rules that read the written part, for a comprehension's block: K said -/
section
variable {X : Cx} (K : PySem.W.Frag)
theorem op_repSK (h : X.K = K := by rfl) : OpR X (binaryOp .Mult) (rRepS K) := h ▸ op_repS
theorem op_catSK (h : X.K = K := by rfl) : OpR X (binaryOp .Add) (rCatS K) := h ▸ op_catS
theorem sl_tupSK (h : X.K = K := by rfl) : SlR X (rSlS K) := h ▸ sl_tupS
theorem sl_listK (h : X.K = K := by rfl) : SlR X (rSlL K) := h ▸ sl_list
theorem ix_listK (h : X.K = K := by rfl) : IxR X (rIxL K) := h ▸ ix_list
theorem ix_tupK (h : X.K = K := by rfl) : IxR X (rIxT K) := h ▸ ix_tup
def rLen (K : PySem.W.Frag) : List V → Hp → VK → Prop := fun xs H Q => ∃ p ys, xs = [.ref p] ∧ (SqL K H p ys ∨ SqT K H p ys) ∧ Q (.int ys.length) H
theorem call_len_seqK (h : X.K = K := by rfl) : CallR X (.builtin "len") (rLen K) := h ▸ call_len_seq
def rTupOf (K : PySem.W.Frag) : List V → Hp → VK → Prop := fun xs H Q => ∃ p ys, xs = [.ref p] ∧ ((SqL K H p ys ∧ ∀ l, H l = none → Q (.ref l) (upd H l (.tup ys))) ∨ (SqT K H p ys ∧ Q (.ref p) H))
theorem call_tuple_ofK (h : X.K = K := by rfl) : CallR X (.type "tuple") (rTupOf K) := h ▸ call_tuple_of
def rListOf (K : PySem.W.Frag) : List V → Hp → VK → Prop := fun xs H Q => ∃ p ys, xs = [.ref p] ∧ (SqL K H p ys ∨ SqT K H p ys) ∧ ∀ l, H l = none → Q (.ref l) (upd H l (.lst ys))
theorem call_list_ofK (h : X.K = K := by rfl) : CallR X (.type "list") (rListOf K) := h ▸ call_list_of
theorem cr_sumK (hc : X.calm = true) (h : X.K = K := by rfl) : CallR X (.builtin "sum") (rSum K) := h ▸ cr_sum hc
theorem op_eqDK (hu : X.A.units + 64 < cLine) (h : X.K = K := by rfl) : OpR X (compareOp .Eq) (rEqD K) := h ▸ op_eqD hu
theorem op_neDK (hu : X.A.units + 64 < cLine) (h : X.K = K := by rfl) : OpR X (compareOp .NotEq) (rNeD K) := h ▸ op_neD hu
end
theorem ty_tup {K : PySem.W.Frag} {H : Hp} {a : Addr} {xs : List V} (h : SqT K H a xs) : TyX K H (.ref a) (.type "tuple") := by
  rcases h with (h | ⟨o, h⟩) | ⟨o, vs, n, hk, hc, _⟩
  · exact .base (.tup h)
  · exact .fTuple h
  · exact .kTuple hk hc
theorem cutV_take (xs : List V) (k : Nat) : cutV xs none (some (k : Int)) = xs.take k := by
  unfold cutV
  rw [HT.sIx_none, HT.sIx_nat, List.drop_zero, Nat.sub_zero]
  by_cases h : k ≤ xs.length
  · rw [Nat.min_eq_left h]
  · rw [Nat.min_eq_right (by omega), List.take_length, List.take_of_length_le (by omega)]
theorem ne_same {d : PyData} {A B : Prop} (h : SeqAt.shaped d = true) (k : B) : if (!PyData.eqv d d) = true then A else B := by
  rw [eqv_same h]
  exact iteF k
theorem ut_take {q : Int} {n i : Nat} {r : List Int} (h : UtRow q n i r) (hi : i < n) : r.take (i + 1) = List.replicate i 0 ++ [1] := by
  obtain ⟨hl, h0, h1, _⟩ := h
  refine List.ext_getElem? fun k => ?_
  have l1 : (List.replicate i (0 : Int)).length = i := List.length_replicate
  by_cases a : k < i
  · rw [List.getElem?_take_of_lt (by omega), h0 k a, List.getElem?_append_left (by omega), List.getElem?_replicate, if_pos a]
  · by_cases b : k = i
    · subst b
      rw [List.getElem?_take_of_lt (by omega), h1, List.getElem?_append_right (by omega), l1, Nat.sub_self]
      rfl
    · rw [List.getElem?_eq_none (by rw [List.length_take]; omega), List.getElem?_eq_none (by rw [List.length_append, l1]; simp; omega)]
theorem ut_row {q : Int} {n : Nat} {M : Mx} (u : UT q n M) {i : Nat} {r : List Int} (hi : i < n) (hr : M[i]? = some r) : UtRow q n i r := by
  obtain ⟨r', e, l, g⟩ := row_get u.s hi
  obtain rfl : r = r' := by rw [e] at hr; exact (Option.some.inj hr).symm
  refine ⟨l, fun j hj => ?_, ?_, fun j x hx => ?_⟩
  · rw [g j (by omega), (u.u i j hi (by omega)).1 hj]
  · rw [g i hi, (u.u i i hi hi).2 rfl]
  · have hj : j < n := by have := (List.getElem?_eq_some_iff.mp hx).1; omega
    rw [g j hj] at hx
    obtain rfl := Option.some.inj hx
    exact u.r i j hi hj
end Vx

namespace Vk03
open PySem PySem.Spec PyProof.Rows L2 Vx
def top (i : Nat) : Stmt := PySem.Challenge.pw_maskedlist_k03_inverses.main.body.getD i (.Pass ⟨0, 0, 0, 0⟩)
def kg_invert_unitriangular {α : Type} : List α → List α → List α
  | [], [x0, x1] => [x1, x0]
  | _, _ => []
section
variable {P : Program} {w : World} {K : PySem.W.Frag} {mg : Str → Option Value} {base : Heap}
def sp_law_pen (K : PySem.W.Frag) : Sp := fun vs H Q _ => ∃ (a : Addr) (ns : List Int), vs = [.ref a] ∧ SqL K H a (ns.map V.int) ∧ ∀ (H' : Hp) (p : Addr), Same H H' → H p = none → Pen K H' p → Q (.ref p) H'

abbrev s_law_pen : Stmt := top 6
theorem sc_law_pen : FnScope ["script"] ["script"] (defScope s_law_pen) := ⟨rfl, rfl, rfl, by decide +kernel, rfl, by decide +kernel, by decide +kernel⟩
theorem ok_law_pen {f : Addr} {fd : FuncData} (F : Fun K "_law_pen" "_law_pen" s_law_pen f fd) (m_list : mg "list" = none) : FnG P w K mg base CX0 1 f fd ["script"] (sp_law_pen K) := by
  refine okG F sc_law_pen (fun vs H Q E h => ?_) (fun cdv A o s H vs Q E hr h => ?_)
  · obtain ⟨a, ns, rfl, _⟩ := h
    rfl
  obtain ⟨a, ns, rfl, hS, q⟩ := h
  refine ⟨_, (pss_one (ps_ret (pe_lst (pa_cons (pe_callTy call_list_of (by rfl) m_list (by decide +kernel) (pa_cons (pe_slice sl_list (pv 0) po_none (po_some pe_int)) pa_nil)) (pa_cons pe_int (pa_cons pe_int pa_nil)))))), ?_⟩
  obtain ⟨ms, em⟩ := cutV_map ns none (some 63)
  refine ⟨_, rfl, 63, rfl, a, _, rfl, hS, fun p hp => ?_⟩
  refine ⟨p, _, rfl, .inl (SqL.of upd_same), fun l hl => ?_⟩
  refine ⟨(by show 3 ≤ sizeLine; decide), fun d hd => ?_⟩
  have s1 := same_new hp (.lst (cutV (ns.map V.int) none (some 63)))
  have s2 := same_new hl (.lst (cutV (ns.map V.int) none (some 63)))
  have s3 := same_new hd (.lst [V.ref l, V.int 0, V.int 0])
  refine q _ d (s1.trans (s2.trans s3)) (s1.free (s2.free hd)) ⟨l, ms, 0, 0, upd_same, ?_, ne_of_none upd_same hd⟩
  rw [← em]
  exact SqL.of (s3 _ _ upd_same)

def sp_law_fresh (K : PySem.W.Frag) : Sp := fun vs H Q _ => ∃ p, vs = [.ref p] ∧ Pen K H p ∧ ∀ H' (r : Int), Dr p H H' → Q (.int r) H'
theorem fresh_bound (a p : Int) (h : p = 2305843009213693951) : 0 ≤ a % p ∧ a % p < p := by
  subst h
  exact ⟨Int.emod_nonneg _ (by decide), Int.emod_lt_of_pos _ (by decide)⟩

abbrev s_law_fresh : Stmt := top 7
theorem sc_law_fresh : FnScope ["pen", "position", "cell", "prime", "state", "mixed", "step"] ["pen"] (defScope s_law_fresh) := ⟨rfl, rfl, rfl, by decide +kernel, rfl, by decide +kernel, by decide +kernel⟩
theorem ok_law_fresh {f : Addr} {fd : FuncData} (F : Fun K "_law_fresh" "_law_fresh" s_law_fresh f fd) (m_range : mg "range" = none) (m_len : mg "len" = none) : FnG P w K mg base CX0 1 f fd ["pen"] (sp_law_fresh K) := by
  refine okG F sc_law_fresh (fun vs H Q E h => ?_) (fun cdv A o s H vs Q E hr h => ?_)
  · obtain ⟨a, rfl, _⟩ := h
    rfl
  obtain ⟨p, rfl, ⟨c, ns, i, m, hP, hC, ne⟩, q⟩ := h
  refine ⟨_, (pss_cons (ps_set (i := 1) sc_law_fresh.nd rfl (Or.inl rfl) (pe_ix ix_list (pv 0) pe_int (fun _ _ => rfl)))
      (pss_cons (ps_asg (pe_op op_add (pv 1) pe_int) (pg_sub (pv 0) pe_int set_list))
      (pss_cons (ps_set (i := 2) sc_law_fresh.nd rfl (Or.inl rfl) pe_int)
      (Evl.pss_cut (ps_if (pt_cmpR (op_neD hr.r.units) (pe_ix ix_list (pv 0) pe_int (fun _ _ => rfl)) (pe_lst pa_nil) (nomark _)) (pss_one (ps_set (i := 2) sc_law_fresh.nd rfl (Or.inl rfl) (pe_ix ix_list (pe_ix ix_list (pv 0) pe_int (fun _ _ => rfl)) (pe_op op_mod (pv 1) (pe_callB call_len_seq (by rfl) m_len (by decide +kernel) (pa_cons (pe_ix ix_list (pv 0) pe_int (fun _ _ => rfl)) pa_nil))) (fun _ _ => rfl)))) pss_nil)
      (Evl.pss_cut (ps_if (PW.pt (pw_and (pt_cmpR op_lt (pv 1) (pe_callB call_len_seq (by rfl) m_len (by decide +kernel) (pa_cons (pe_ix ix_list (pv 0) pe_int (fun _ _ => rfl)) pa_nil)) (nomark _)) (pw_and1 (pt_cmpR op_ge (pv 2) (pe_op op_pow pe_int pe_int) (nomark _))))) (pss_one (ps_ret (pe_op op_sub (pv 2) (pe_op op_pow pe_int pe_int)))) pss_nil)
      (pss_cons (ps_set (i := 3) sc_law_fresh.nd rfl (Or.inl rfl) pe_int)
      (pss_cons (ps_set (i := 4) sc_law_fresh.nd rfl (Or.inl rfl) (pe_op op_mod (pe_op op_add (pe_op op_add (pe_op op_mul (pv 2) pe_int) (pe_op op_mul pe_int (pv 1))) pe_int) (pv 3)))
      (pss_cons (ps_set (i := 5) sc_law_fresh.nd rfl (Or.inl rfl) (pv 4))
      (pss_cons (ps_for PassesOwn.never rfl (pi_range1 rfl m_range (pa_cons pe_int pa_nil)) (pg_name (i := 6) sc_law_fresh.nd rfl (Or.inl rfl)) (pss_cons (ps_set (i := 4) sc_law_fresh.nd rfl (Or.inl rfl) (pe_op op_add (pe_op op_mul (pv 4) (pv 4)) (pe_op op_mul (pe_op op_mul pe_int (pe_op op_add (pv 6) pe_int)) (pe_op op_add (pv 1) pe_int))))
      (pss_cons (ps_set (i := 4) sc_law_fresh.nd rfl (Or.inl rfl) (pe_op op_mod (pe_op op_add (pv 4) (pv 2)) (pv 3)))
      (pss_one (ps_set (i := 5) sc_law_fresh.nd rfl (Or.inl rfl) (pe_op op_add (pe_op op_mul (pv 5) (pv 3)) (pv 4)))))))
      (pss_one (ps_ret (pv 5)))))))))))), ?_⟩
  have P0 : PenAt K H p c ns i m := ⟨hP, hC, ne⟩
  have P1 := P0.put (i + 1) m
  refine ⟨_, rfl, p, _, 1, _, rfl, rfl, SqL.of hP, rfl, ?_⟩
  refine ⟨_, rfl, _, _, rfl, rfl, ?_⟩
  refine ⟨_, rfl, p, _, 1, 1, rfl, rfl, hP, rfl, ?_⟩
  have b1 : But p H (upd H p (.lst [.ref c, .int (i + 1), .int m])) := But.upd
  -- cell = 0; if pen[0] != []
  refine ⟨fun σ H2 => ∃ z : Int, σ = [some (.ref p), some (.int i), some (.int z), none, none, none, none] ∧ But p H H2 ∧ PenAt K H2 p c ns (i + 1) m, ?_, ?_⟩
  · refine ⟨_, rfl, p, _, 0, _, rfl, rfl, SqL.of P1.1, rfl, Nat.zero_le _, fun e0 he => ?_⟩
    have s1 := same_new he (.lst [])
    have P2 : PenAt K (upd (upd H p (.lst [.ref c, .int (i + 1), .int m])) e0 (.lst [])) p c ns (i + 1) m := ⟨s1 _ _ P1.1, s1.seq P1.2.1, ne⟩
    have b2 : But p H (upd (upd H p (.lst [.ref c, .int (i + 1), .int m])) e0 (.lst [])) := b1.trans (.new he _)
    refine ⟨.list (ns.map .int), .list [], .lst P2.2.1 (dp_ints K _ ns), .lst (SqL.of upd_same) .nil, shaped_ints ns, rfl, _, rfl, ?_⟩
    refine ite2 (fun hne => ?_) (fun _ => ?_)
    · have hn : ns ≠ [] := fun e => by
        subst e
        exact absurd hne (by decide)
      have hl : 0 < ((ns.map V.int).length : Int) := by
        rw [List.length_map]
        have := List.length_pos_iff.mpr hn
        omega
      have hm0 := Int.emod_nonneg i (show ((ns.map V.int).length : Int) ≠ 0 by omega)
      have hm1 := Int.emod_lt_of_pos i hl
      obtain ⟨v, hv⟩ := at_map (ns := ns) hm0 (by rw [List.length_map] at hm1 ⊢; exact hm1)
      refine ⟨_, rfl, p, _, 0, _, rfl, rfl, SqL.of P2.1, rfl, _, rfl, _, rfl, p, _, 0, _, rfl, rfl, SqL.of P2.1, rfl, c, _, rfl, .inl P2.2.1, _, _, rfl, rfl, hl, ?_⟩
      exact ⟨c, _, _, _, rfl, rfl, P2.2.1, hv, v, rfl, b2, P2⟩
    · exact ⟨0, rfl, b2, P2⟩
  · rintro σ H2 ⟨z, rfl, b2, P2⟩
    have fin : ∀ r : Int, Q (.int r) H2 := fun r => q H2 r (.put b2 P0 P2.1)
    -- if position < len(pen[0]) and cell >= 10 ** 18: return ..
    refine ⟨fun σ' H' => σ' = [some (.ref p), some (.int i), some (.int z), none, none, none, none] ∧ H' = H2, ?_, ?_⟩
    · refine ⟨_, rfl, _, rfl, p, _, 0, _, rfl, rfl, SqL.of P2.1, rfl, c, _, rfl, .inl P2.2.1, _, _, rfl, rfl, _, rfl, ?_⟩
      refine ite2 (fun _ => ?_) (fun _ => iteF ⟨rfl, rfl⟩)
      refine ⟨_, rfl, _, _, rfl, rfl, ⟨by decide, by decide, by decide⟩, _, _, rfl, rfl, _, rfl, ?_⟩
      refine ite2 (fun _ => ?_) (fun _ => ⟨rfl, rfl⟩)
      exact ⟨_, rfl, _, _, rfl, rfl, ⟨by decide, by decide, by decide⟩, _, _, rfl, rfl, fin _⟩
    rintro _ H3 ⟨rfl, rfl⟩
    -- prime, state, mixed
    refine ⟨_, rfl, _, _, rfl, rfl, .inr ⟨by decide, by decide⟩, _, rfl, _, _, rfl, rfl, .inl ⟨by decide, by decide⟩, _, _, rfl, rfl, _, _, rfl, rfl, _, rfl, _, _, rfl, rfl, (by show (0 : Int) < 2305843009213693951; decide), ?_⟩
    refine ⟨_, rfl, ?_⟩
    refine ⟨6, rfl, by decide, by decide, for_range (n := 6) (fun _ σ' H' => H' = H3 ∧ ∃ (st mx : Int) (sp : Option V), 0 ≤ st ∧ st < 2305843009213693951 ∧ σ' = [some (.ref p), some (.int i), some (.int z), some (.int 2305843009213693951), some (.int st), some (.int mx), sp]) ?_ ?_ ?_⟩
    · obtain ⟨h0, h1⟩ := fresh_bound (z * 48271 + 40692 * i + 31) _ rfl
      exact ⟨rfl, _, _, _, h0, h1, rfl⟩
    · rintro j σ' H' hj ⟨rfl, st, mx, sp, h0, h1, rfl⟩
      refine ⟨_, rfl, _, rfl, _, _, rfl, rfl, .inl ⟨by omega, by omega⟩, _, rfl, _, _, rfl, rfl, _, _, rfl, rfl, .inl ⟨by decide, by decide⟩, _, rfl, _, _, rfl, rfl, _, _, rfl, rfl, .inl ⟨by omega, by omega⟩, _, _, rfl, rfl, ?_⟩
      refine ⟨_, rfl, _, rfl, _, _, rfl, rfl, _, rfl, _, _, rfl, rfl, (by show (0 : Int) < 2305843009213693951; decide), ?_⟩
      refine ⟨_, rfl, _, rfl, _, _, rfl, rfl, .inr ⟨by decide, by decide⟩, _, rfl, _, _, rfl, rfl, ?_⟩
      obtain ⟨h2, h3⟩ := fresh_bound (st * st + 69621 * (0 + (j : Int) + 1) * (i + 1) + z) _ rfl
      exact ⟨rfl, _, _, _, h2, h3, rfl⟩
    · rintro σ' H' ⟨rfl, st, mx, sp, h0, h1, rfl⟩
      exact ⟨_, rfl, fin _⟩

def sp_law_draw (K : PySem.W.Frag) : Sp := fun vs H Q _ => ∃ (p : Addr) (b : Int), vs = [.ref p, .int b] ∧ Pen K H p ∧ 0 < b ∧ b.natAbs < 2 ^ 300 ∧ ∀ (H' : Hp) (r : Int), Dr p H H' → 0 ≤ r → r < b → Q (.int r) H'

abbrev s_law_draw : Stmt := top 8
theorem sc_law_draw : FnScope ["pen", "bound", "digit"] ["pen", "bound"] (defScope s_law_draw) := ⟨rfl, rfl, rfl, by decide +kernel, rfl, by decide +kernel, by decide +kernel⟩
theorem ok_law_draw {f : Addr} {fd : FuncData} (F : Fun K "_law_draw" "_law_draw" s_law_draw f fd) (c__law_fresh : Cal P w K mg base "_law_fresh" 1 ["pen"] (sp_law_fresh K)) : FnG P w K mg base CX0 2 f fd ["pen", "bound"] (sp_law_draw K) := by
  obtain ⟨f__law_fresh, fd__law_fresh, G__law_fresh, m__law_fresh, k__law_fresh, b__law_fresh⟩ := c__law_fresh.ex
  refine okG F sc_law_draw (fun vs H Q E h => ?_) (fun cdv A o s H vs Q E hr h => ?_)
  · obtain ⟨a, b, rfl, _⟩ := h
    rfl
  obtain ⟨p, b, rfl, hPen, hb, hb2, q⟩ := h
  refine ⟨_, (Evl.pss_cut (ps_if (pt_cmpR op_lt (pe_ix ix_list (pv 0) pe_int (fun _ _ => rfl)) (pv 1) (nomark _)) (pss_one (ps_asg (ge_call G__law_fresh (hr.mono (by decide)) (by rfl) m__law_fresh k__law_fresh b__law_fresh .nil pass0 (pa_cons (pv 0) pa_nil)) (pg_sub (pv 0) pe_int set_list))) pss_nil)
      (pss_cons (ps_set (i := 2) sc_law_draw.nd rfl (Or.inl rfl) (pe_op op_mod (pe_ix ix_list (pv 0) pe_int (fun _ _ => rfl)) (pv 1)))
      (pss_cons (ps_asg (pe_op op_fdivW (pe_ix ix_list (pv 0) pe_int (fun _ _ => rfl)) (pv 1)) (pg_sub (pv 0) pe_int set_list))
      (pss_one (ps_ret (pv 2)))))), ?_⟩
  refine ⟨fun σ H2 => σ = [some (.ref p), some (.int b), none] ∧ Dr p H H2, ?_, ?_⟩
  · obtain ⟨c, ns, i, m, hP, hC, ne⟩ := id hPen
    refine ⟨_, rfl, p, _, 2, _, rfl, rfl, SqL.of hP, rfl, _, rfl, _, _, rfl, rfl, _, rfl, ?_⟩
    refine ite2 (fun _ => ?_) (fun _ => ⟨rfl, .refl _ _⟩)
    refine ⟨_, rfl, p, rfl, hPen, fun H' r k1 => ?_⟩
    obtain ⟨c', ns', i', m', P2⟩ := k1.pen hPen
    refine ⟨_, rfl, p, _, 2, 2, rfl, rfl, P2.1, rfl, rfl, k1.trans (.put .upd P2 (P2.put i' r).1)⟩
  · rintro _ H2 ⟨rfl, b1⟩
    obtain ⟨c, ns, i, m, P2⟩ := b1.pen hPen
    refine ⟨_, rfl, p, _, 2, _, rfl, rfl, SqL.of P2.1, rfl, _, rfl, _, _, rfl, rfl, hb, ?_⟩
    refine ⟨_, rfl, p, _, 2, _, rfl, rfl, SqL.of P2.1, rfl, _, rfl, _, _, rfl, rfl, wide_div hb hb2 (by decide) (by decide), ?_⟩
    refine ⟨_, rfl, p, _, 2, 2, rfl, rfl, P2.1, rfl, ?_⟩
    exact ⟨_, rfl, q _ _ (b1.trans (.put .upd P2 (P2.put i _).1)) (Int.emod_nonneg _ (by omega)) (Int.emod_lt_of_pos _ hb)⟩


def sp_law_modulus (K : PySem.W.Frag) : Sp := fun vs H Q _ => ∃ p : Addr, vs = [.ref p] ∧ Pen K H p ∧ ∀ (H' : Hp) (q : Int), Dr p H H' → 2 ≤ q → q ≤ 1000 → Q (.int q) H'
theorem at_mem {ns : List Int} {i : Int} (h0 : 0 ≤ i) (h : i < ns.length) : ∃ v ∈ ns, atI (ns.map V.int) i = some (.int v) := by
  have hk : i.toNat < ns.length := by omega
  have e : i = ((i.toNat : Nat) : Int) := by omega
  refine ⟨ns[i.toNat], List.getElem_mem hk, ?_⟩
  generalize hg : ns[i.toNat] = v
  rw [e]
  subst hg
  exact atI_nat (by rw [List.getElem?_map, List.getElem?_eq_getElem (by omega)]; rfl)

abbrev s_law_modulus : Stmt := top 9
theorem sc_law_modulus : FnScope ["pen"] ["pen"] (defScope s_law_modulus) := ⟨rfl, rfl, rfl, by decide +kernel, rfl, by decide +kernel, by decide +kernel⟩
theorem ok_law_modulus {f : Addr} {fd : FuncData} (F : Fun K "_law_modulus" "_law_modulus" s_law_modulus f fd) (c__law_draw : Cal P w K mg base "_law_draw" 2 ["pen", "bound"] (sp_law_draw K)) : FnG P w K mg base CX0 3 f fd ["pen"] (sp_law_modulus K) := by
  obtain ⟨f__law_draw, fd__law_draw, G__law_draw, m__law_draw, k__law_draw, b__law_draw⟩ := c__law_draw.ex
  refine okG F sc_law_modulus (fun vs H Q E h => ?_) (fun cdv A o s H vs Q E hr h => ?_)
  · obtain ⟨p, rfl, _⟩ := h
    rfl
  obtain ⟨p, rfl, hP, q⟩ := h
  refine ⟨_, (pss_one (ps_ret (pe_ix ix_list (pe_lst (pa_cons pe_int (pa_cons pe_int (pa_cons pe_int (pa_cons pe_int (pa_cons pe_int (pa_cons pe_int (pa_cons pe_int (pa_cons pe_int (pa_cons pe_int (pa_cons (pe_op op_add pe_int (ge_call G__law_draw (hr.mono (by decide)) (by rfl) m__law_draw k__law_draw b__law_draw .nil pass0 (pa_cons (pv 0) (pa_cons pe_int pa_nil)))) pa_nil))))))))))) (ge_call G__law_draw (hr.mono (by decide)) (by rfl) m__law_draw k__law_draw b__law_draw .nil pass0 (pa_cons (pv 0) (pa_cons pe_int pa_nil))) (fun _ _ => rfl)))), ?_⟩
  refine ⟨_, rfl, p, 999, rfl, hP, by decide, by decide, fun H1 r b1 r0 r1 => ?_⟩
  have P1 := b1.pen hP
  refine ⟨_, _, rfl, rfl, (by show 10 ≤ sizeLine; decide), fun l hl => ?_⟩
  have P2 := P1.new hl (.lst (([2, 3, 4, 5, 6, 7, 12, 97, 1000, 2 + r] : List Int).map V.int))
  refine ⟨_, rfl, p, 10, rfl, P2, by decide, by decide, fun H2 k b2 k0 k1 => ?_⟩
  obtain ⟨v, hv, e⟩ := at_mem (ns := [2, 3, 4, 5, 6, 7, 12, 97, 1000, 2 + r]) k0 k1
  refine ⟨l, _, _, _, rfl, rfl, SqL.of (b2.but _ _ (P1.free hl) upd_same), e, ?_⟩
  have hb : 2 ≤ v ∧ v ≤ 1000 := by
    simp only [List.mem_cons, List.not_mem_nil, or_false] at hv
    omega
  exact q H2 v (b1.trans ((Dr.new hl _).trans b2)) hb.1 hb.2

end
end Vk03

namespace Vk03
open PySem PySem.Spec PyProof.Rows L2 Vx
section
variable {P : Program} {w : World} {K : PySem.W.Frag} {mg : Str → Option Value} {base : Heap}
def sp_unit_row (K : PySem.W.Frag) : Sp := fun vs H Q _ => ∃ i n : Nat, vs = [.int (i : Int), .int (n : Int)] ∧ n ≤ 1000 ∧ someT K ((fnRow n (dl i)).map V.int) H Q

abbrev s_unit_row : Stmt := top 2
theorem sc_unit_row : FnScope ["index", "size", "at"] ["index", "size"] (defScope s_unit_row) := ⟨rfl, rfl, rfl, by decide +kernel, rfl, by decide +kernel, by decide +kernel⟩
theorem ok_unit_row {f : Addr} {fd : FuncData} (F : Fun K "_unit_row" "_unit_row" s_unit_row f fd) (m_tuple : mg "tuple" = none) (m_range : mg "range" = none) : FnG P w K mg base CX0 1 f fd ["index", "size"] (sp_unit_row K) := by
  refine okG F sc_unit_row (fun vs H Q E h => ?_) (fun cdv A o s H vs Q E hr h => ?_)
  · obtain ⟨i, n, rfl, _⟩ := h
    rfl
  obtain ⟨i, n, rfl, hn, q⟩ := h
  refine ⟨_, (pss_one (ps_ret (pe_callTy call_tuple_of (by rfl) m_tuple (by decide +kernel) (pa_cons (pe_lc (own := [("at", 2)]) (g := (gName 2)) (by rfl) sc_unit_row.nd (pi_range1 rfl m_range (pa_cons (pv 1) pa_nil)) (blkOk_by (own := [("at", 2)]) (by kernel_rfl)) (fun _ _ _ _ _ => (pg_name (i := 2) sc_unit_row.nd rfl (Or.inl rfl))) (fun _ _ _ _ _ => pts_nil) (fun _ _ _ _ _ => (pe_ifExp (pt_cmpR op_eq (pv 2) (pv 0) (nomark _)) pe_int pe_int))) pa_nil)))), ?_⟩
  refine ⟨_, rfl, _, rfl, by omega, by omega, fun D hD => lc_rangeD (K := K) (fun H' => Same H H') (fun k d => d = .int (dl i k)) (by simp; omega) (same_new hD _) (fun _ => rfl) ?_ ?_⟩
  · intro k H' hk m Q' q'
    obtain ⟨acc, ds, e, _, _, _, _, g⟩ := m
    have fin : Q' (.int (dl i k)) H' := q' _ _ _ (.same (Same.refl _) e) rfl (.int _) rfl (fun _ => same_mut g hD)
    refine ⟨_, rfl, _, rfl, rfl, _, rfl, ?_⟩
    by_cases c : i = k
    · subst c
      rw [show dl i i = 1 from if_pos rfl] at fin
      rw [show decide (V.int (0 + ((i : Nat) : Int)) = V.int (i : Int)) = true from decide_eq_true (by rw [Int.zero_add])]
      exact fin
    · rw [show dl i k = 0 from if_neg c] at fin
      rw [show decide (V.int (0 + ((k : Nat) : Int)) = V.int (i : Int)) = false from decide_eq_false (fun z => c (by injection z with z; omega))]
      exact fin
  · rintro H' ⟨acc, ds, e, k, no, hl, hk, g⟩
    rw [Int.toNat_natCast] at hl
    have e2 := made_eq (g := fun k => PyData.int (dl i k)) hl hk
    have e3 : ds = (fnRow n (dl i)).map PyData.int := by rw [e2, fnRow, List.map_map]; rfl
    rw [e3] at k
    have e4 := dp_ints_eq k
    subst e4
    refine ⟨D, _, rfl, .inl ⟨SqL.of e, fun l hl => q _ _ (g.trans (same_new hl _)) (SqT.of upd_same)⟩⟩

def sp_identity_matrix (K : PySem.W.Frag) : Sp := fun vs H Q _ => ∃ n : Nat, vs = [.int (n : Int)] ∧ n ≤ 1000 ∧ someD K (mat (fnMx n dl)) H Q

abbrev s_identity_matrix : Stmt := top 1
theorem sc_identity_matrix : FnScope ["size", "index"] ["size"] (defScope s_identity_matrix) := ⟨rfl, rfl, rfl, by decide +kernel, rfl, by decide +kernel, by decide +kernel⟩
theorem ok_identity_matrix {f : Addr} {fd : FuncData} (F : Fun K "identity_matrix" "identity_matrix" s_identity_matrix f fd) (m_tuple : mg "tuple" = none) (m_range : mg "range" = none) (c__unit_row : Cal P w K mg base "_unit_row" 1 ["index", "size"] (sp_unit_row K)) : FnG P w K mg base CX0 2 f fd ["size"] (sp_identity_matrix K) := by
  obtain ⟨f__unit_row, fd__unit_row, G__unit_row, m__unit_row, k__unit_row, b__unit_row⟩ := c__unit_row.ex
  refine okG F sc_identity_matrix (fun vs H Q E h => ?_) (fun cdv A o s H vs Q E hr h => ?_)
  · obtain ⟨n, rfl, _⟩ := h
    rfl
  obtain ⟨n, rfl, hn, q⟩ := h
  refine ⟨_, (pss_one (ps_ret (pe_callTy call_tuple_of (by rfl) m_tuple (by decide +kernel) (pa_cons (pe_lc (own := [("index", 1)]) (g := (gName 1)) (by rfl) sc_identity_matrix.nd (pi_range1 rfl m_range (pa_cons (pv 0) pa_nil)) (blkOk_by (own := [("index", 1)]) (by kernel_rfl)) (fun _ _ _ _ _ => (pg_name (i := 1) sc_identity_matrix.nd rfl (Or.inl rfl))) (fun _ _ _ _ _ => pts_nil) (fun _ _ _ _ _ => (ge_call G__unit_row (hr.mono (by decide)) (by rfl) m__unit_row k__unit_row b__unit_row .nil pass0 (pa_cons (pv 1) (pa_cons (pv 0) pa_nil))))) pa_nil)))), ?_⟩
  refine ⟨_, rfl, _, rfl, by omega, by omega, fun D hD => lc_rangeD (K := K) (fun H' => Same H H') (fun k d => d = rowD (fnRow n (dl k))) (by simp; omega) (same_new hD _) (fun _ => rfl) ?_ ?_⟩
  · intro k H' hk m Q' q'
    obtain ⟨acc, ds, e, _, _, _, _, g⟩ := m
    refine ⟨_, rfl, _, rfl, k, n, (by rw [Int.zero_add]; rfl), hn, fun t H1 s1 ht => ?_⟩
    exact q' _ _ _ (.same s1 e) (noL_row _) (dp_row ht) rfl (fun _ => same_mut (g.trans s1) hD)
  · rintro H' ⟨acc, ds, e, k, no, hl, hk, g⟩
    rw [Int.toNat_natCast] at hl
    have e2 := made_eq (g := fun k => rowD (fnRow n (dl k))) hl hk
    have e3 : ds = (fnMx n dl).map rowD := by rw [e2, fnMx, List.map_map]; rfl
    rw [e3] at k
    refine ⟨D, _, rfl, .inl ⟨SqL.of e, fun l hl => q _ _ (g.trans (same_new hl _)) (.tup (SqT.of upd_same) (dpAll_same (same_new hl _) _ _ k))⟩⟩

/-- what the elimination leaves behind m rows below: the unit row less m products -/
def elim (A B : Fm) (i m : Nat) : Nat → Int := fun j => dl i j - sm m fun d => if i + 1 + d ≤ j then A i (i + 1 + d) * B (i + 1 + d) j else 0
/-- .. and t places of one more -/
def elimT (A B : Fm) (i m t : Nat) : Nat → Int := fun j => if i + 1 + m ≤ j ∧ j < i + 1 + m + t then elim A B i m j - A i (i + 1 + m) * B (i + 1 + m) j else elim A B i m j
theorem elimT_zero (A B : Fm) (i m : Nat) : elimT A B i m 0 = elim A B i m := by
  funext j
  unfold elimT
  rw [if_neg (by omega)]
theorem elimT_all {A B : Fm} {i m n j : Nat} (hj : j < n) : elimT A B i m (n - (i + 1 + m)) j = elim A B i (m + 1) j := by
  unfold elimT elim
  show _ = dl i j - (sm m _ + if i + 1 + m ≤ j then A i (i + 1 + m) * B (i + 1 + m) j else 0)
  split
  · rw [if_pos (by omega)]; omega
  · rw [if_neg (by omega)]; omega
theorem fnRow_set {n j : Nat} {f g : Nat → Int} {x : Int} (hj : j < n) (hx : g j = x) (ho : ∀ k, k < n → k ≠ j → g k = f k) : ((fnRow n f).map V.int).set j (.int x) = (fnRow n g).map V.int := by
  refine List.ext_getElem? fun k => ?_
  by_cases hk : k < n
  · by_cases e : k = j
    · subst e
      rw [List.getElem?_set_self (by rw [List.length_map, fnRow_len]; exact hk), List.getElem?_map, fnRow_get hk, hx]
      rfl
    · rw [List.getElem?_set_ne (Ne.symm e), List.getElem?_map, List.getElem?_map, fnRow_get hk, fnRow_get hk, ho k hk e]
  · rw [List.getElem?_eq_none (by rw [List.length_set, List.length_map, fnRow_len]; omega), List.getElem?_eq_none (by rw [List.length_map, fnRow_len]; omega)]
theorem fnRow_congr {n : Nat} {f g : Nat → Int} (h : ∀ k, k < n → f k = g k) : fnRow n f = fnRow n g := by
  unfold fnRow
  exact List.map_congr_left fun k hk => h k (List.mem_range.mp hk)
def sp_inverse_row (K : PySem.W.Frag) : Sp := fun vs H Q _ => ∃ (r b : Addr) (i n : Nat) (q : Int) (A B : Fm) (xs : List V), vs = [.ref r, .int (i : Int), .ref b, .int q] ∧ 0 < q ∧ q ≤ 1000 ∧ i < n ∧ n ≤ 1000 ∧ SqT K H r ((fnRow n (A i)).map V.int) ∧
  (∀ k, k < n → -1000 ≤ A i k ∧ A i k ≤ 1000) ∧ H b = some (.lst xs) ∧ (∀ k, i < k → k < n → ∃ t : Addr, xs[k]? = some (.ref t) ∧ SqT K H t ((fnRow n (B k)).map V.int)) ∧
  someT K ((fnRow n fun j => elim A B i (n - (i + 1)) j % q).map V.int) H Q

abbrev s_inverse_row : Stmt := top 4
theorem sc_inverse_row : FnScope ["row", "index", "inverse", "modulus", "entries", "below", "at", "entry"] ["row", "index", "inverse", "modulus"] (defScope s_inverse_row) := ⟨rfl, rfl, rfl, by decide +kernel, rfl, by decide +kernel, by decide +kernel⟩
theorem ok_inverse_row {f : Addr} {fd : FuncData} (F : Fun K "_inverse_row" "_inverse_row" s_inverse_row f fd) (m_list : mg "list" = none) (m_range : mg "range" = none) (m_tuple : mg "tuple" = none) (m_len : mg "len" = none) (c__unit_row : Cal P w K mg base "_unit_row" 1 ["index", "size"] (sp_unit_row K)) : FnG P w K mg base CX0 2 f fd ["row", "index", "inverse", "modulus"] (sp_inverse_row K) := by
  obtain ⟨f__unit_row, fd__unit_row, G__unit_row, m__unit_row, k__unit_row, b__unit_row⟩ := c__unit_row.ex
  refine okG F sc_inverse_row (fun vs H Q E h => ?_) (fun cdv A' o s H vs Q E hr h => ?_)
  · obtain ⟨r, b, i, n, q, A, B, xs, rfl, _⟩ := h
    rfl
  obtain ⟨r, b, i, n, q, A, B, xs, rfl, hq, hq2, hi, hn, hR, hA, hb, hB, done⟩ := h
  refine ⟨_, (pss_cons (ps_set (i := 4) sc_inverse_row.nd rfl (Or.inl rfl) (pe_callTy call_list_of (by rfl) m_list (by decide +kernel) (pa_cons (ge_call G__unit_row (hr.mono (by decide)) (by rfl) m__unit_row k__unit_row b__unit_row .nil pass0 (pa_cons (pv 1) (pa_cons (pe_callB call_len_seq (by rfl) m_len (by decide +kernel) (pa_cons (pv 0) pa_nil)) pa_nil))) pa_nil)))
      (pss_cons (ps_for PassesOwn.never rfl (pi_range2 rfl m_range (pa_cons (pe_op op_add (pv 1) pe_int) (pa_cons (pe_callB call_len_seq (by rfl) m_len (by decide +kernel) (pa_cons (pv 0) pa_nil)) pa_nil))) (pg_name (i := 5) sc_inverse_row.nd rfl (Or.inl rfl)) (pss_one (ps_for PassesOwn.never rfl (pi_range2 rfl m_range (pa_cons (pv 5) (pa_cons (pe_callB call_len_seq (by rfl) m_len (by decide +kernel) (pa_cons (pv 0) pa_nil)) pa_nil))) (pg_name (i := 6) sc_inverse_row.nd rfl (Or.inl rfl)) (pss_one (ps_augS (pv 4) (pv 6) get_list (pe_op op_mul (pe_ix ix_tup (pv 0) (pv 5) (fun _ _ => rfl)) (pe_ix ix_tup (pe_ix ix_list (pv 2) (pv 5) (fun _ _ => rfl)) (pv 6) (fun _ _ => rfl))) ip_sub set_list)))))
      (pss_one (ps_ret (pe_callTy call_tuple_of (by rfl) m_tuple (by decide +kernel) (pa_cons (pe_lc (own := [("entry", 7)]) (g := (gName 7)) (by rfl) sc_inverse_row.nd (pi_list (pv 4)) (blkOk_by (own := [("entry", 7)]) (by kernel_rfl)) (fun _ _ _ _ _ => (pg_name (i := 7) sc_inverse_row.nd rfl (Or.inl rfl))) (fun _ _ _ _ _ => pts_nil) (fun _ _ _ _ _ => (pe_op op_mod (pv 7) (pv 3)))) pa_nil)))))), ?_⟩
  have rl : ((fnRow n (A i)).map V.int).length = n := by rw [List.length_map, fnRow_len]
  refine ⟨_, rfl, _, rfl, r, _, rfl, .inr hR, i, n, (by rw [rl]; rfl), hn, fun u H1 s1 hu => ?_⟩
  refine ⟨u, _, rfl, .inr hu, fun e he => ?_⟩
  have he0 : H e = none := Same.free s1 he
  have hR2 : ∀ {H'}, Same H H' → SqT K H' r ((fnRow n (A i)).map V.int) := fun z => Same.seqT z hR
  refine ⟨_, rfl, _, _, rfl, rfl, _, rfl, r, _, rfl, .inr (hR2 (s1.trans (same_new he _))), _, _, rfl, ⟨by omega, by omega, by omega, by rw [rl]; omega⟩, ?_⟩
  rw [rl, show ((n : Int) - ((i : Int) + 1)).toNat = n - (i + 1) by omega]
  refine for_range (fun m σ' H' => Same H H' ∧ H' e = some (.lst ((fnRow n (elim A B i m)).map V.int)) ∧ ∃ x y, σ' = [some (.ref r), some (.int (i : Int)), some (.ref b), some (.int q), some (.ref e), x, y, none]) ?_ ?_ ?_
  · refine ⟨s1.trans (same_new he _), ?_, none, none, rfl⟩
    rw [upd_same, show elim A B i 0 = dl i from funext fun j => Int.sub_zero _]
  · rintro m σ' H' hm ⟨s2, hE, x, y, rfl⟩
    refine ⟨_, rfl, _, rfl, r, _, rfl, .inr (hR2 s2), _, _, rfl, ⟨by omega, by omega, by omega, by rw [rl]; omega⟩, ?_⟩
    have e1 : (i : Int) + 1 + (m : Int) = ((i + 1 + m : Nat) : Int) := by omega
    rw [rl, show ((n : Int) - ((i : Int) + 1 + (m : Int))).toNat = n - (i + 1 + m) by omega, e1]
    obtain ⟨t, ht, hT⟩ := hB (i + 1 + m) (by omega) (by omega)
    refine for_range (fun d σ' H' => Same H H' ∧ H' e = some (.lst ((fnRow n (elimT A B i m d)).map V.int)) ∧ ∃ y, σ' = [some (.ref r), some (.int (i : Int)), some (.ref b), some (.int q), some (.ref e), some (.int ((i + 1 + m : Nat) : Int)), y, none]) ?_ ?_ ?_
    · exact ⟨s2, by rw [elimT_zero]; exact hE, y, rfl⟩
    · rintro d σ' H' hd ⟨s3, hE, y, rfl⟩
      have e2 : ((i + 1 + m : Nat) : Int) + (d : Int) = ((i + 1 + m + d : Nat) : Int) := by omega
      rw [e2]
      have g1 : (fnRow n (A i))[i + 1 + m]? = some (A i (i + 1 + m)) := fnRow_get (by omega)
      have g2 : (fnRow n (B (i + 1 + m)))[i + 1 + m + d]? = some (B (i + 1 + m) (i + 1 + m + d)) := fnRow_get (by omega)
      have g3 : ((fnRow n (elimT A B i m d)).map V.int)[i + 1 + m + d]? = some (.int (elimT A B i m d (i + 1 + m + d))) := by rw [List.getElem?_map, fnRow_get (by omega)]; rfl
      have hAi := hA (i + 1 + m) (by omega)
      refine ⟨_, rfl, _, rfl, e, _, _, _, rfl, rfl, SqL.of hE, g3, ?_⟩
      refine ⟨_, rfl, _, rfl, r, _, _, _, rfl, rfl, hR2 s3, at_of g1, _, rfl, _, rfl, b, _, _, _, rfl, rfl, SqL.of (s3 _ _ hb), atI_nat ht, _, rfl, t, _, _, _, rfl, rfl, Same.seqT s3 hT, at_of g2, ?_⟩
      refine ⟨_, _, rfl, rfl, .inl ⟨by omega, by omega⟩, _, _, rfl, rfl, ?_⟩
      refine ⟨e, _, _, i + 1 + m + d, rfl, rfl, hE, Evl.ixN_nat (by rw [List.length_map, fnRow_len]; omega), ?_⟩
      refine ⟨same_mut s3 he0, ?_, _, rfl⟩
      rw [upd_same, fnRow_set (g := elimT A B i m (d + 1)) (by omega) ?_ ?_]
      · unfold elimT
        rw [if_pos (by omega), if_neg (by omega)]
      · intro k hk hne
        unfold elimT
        split
        · rw [if_pos (by omega)]
        · rw [if_neg (by omega)]
    · rintro σ' H' ⟨s3, hE, y, rfl⟩
      refine ⟨s3, ?_, _, _, rfl⟩
      rw [hE, fnRow_congr fun k hk => elimT_all (A := A) (B := B) (i := i) (m := m) hk]
  · rintro σ' H' ⟨s2, hE, x, y, rfl⟩
    refine ⟨_, rfl, e, rfl, ⟨_, SqL.of hE⟩, fun D hD => lc_listD (K := K) (a := e) (xs := (fnRow n (elim A B i (n - (i + 1)))).map V.int) (fun H2 => Same H' H2) (fun k d => d = .int (elim A B i (n - (i + 1)) k % q)) (by rw [List.length_map, fnRow_len]; omega) (same_new hD _) (fun H2 g => g.seq (SqL.of hE)) (fun _ => rfl) ?_ ?_⟩
    · intro k v H2 hk m Q' q'
      obtain ⟨acc, ds, ea, _, _, _, _, g⟩ := m
      have hkn : k < n := by have := (List.getElem?_eq_some_iff.mp hk).1; rw [List.length_map, fnRow_len] at this; exact this
      rw [List.getElem?_map, fnRow_get hkn] at hk
      obtain rfl : V.int (elim A B i (n - (i + 1)) k) = v := Option.some.inj hk
      exact ⟨_, rfl, _, rfl, _, _, rfl, rfl, hq, q' _ _ _ (.same (Same.refl _) ea) rfl (.int _) rfl fun _ => same_mut g hD⟩
    · rintro H2 ⟨acc, ds, ea, k, no, hl, hk, g⟩
      rw [List.length_map, fnRow_len] at hl
      have e2 := made_eq (g := fun k => PyData.int (elim A B i (n - (i + 1)) k % q)) hl hk
      have e3 : ds = (fnRow n fun j => elim A B i (n - (i + 1)) j % q).map PyData.int := by rw [e2, fnRow, List.map_map]; rfl
      rw [e3] at k
      have e4 := dp_ints_eq k
      subst e4
      exact ⟨D, _, rfl, .inl ⟨SqL.of ea, fun l hl => done _ _ (s2.trans (g.trans (same_new hl _))) (SqT.of upd_same)⟩⟩

/-- what one more row of the inverse has -/
theorem elim_row {A B : Fm} {i n : Nat} {q : Int} (hq : 1 < q) (hi : i < n) (hA : ∀ k, k < i → A i k = 0) (h1 : A i i = 1) (hB : ∀ k j, i < k → k < n → j < k → B k j = 0) :
    (∀ j, 0 ≤ elim A B i (n - (i + 1)) j % q ∧ elim A B i (n - (i + 1)) j % q < q) ∧ (∀ j, j < i → elim A B i (n - (i + 1)) j % q = 0) ∧ elim A B i (n - (i + 1)) i % q = 1 ∧
    ∀ (C : Fm) (j : Nat), C i j = elim A B i (n - (i + 1)) j % q → (∀ k, i < k → k < n → C k j = B k j) → Cg q (sm n fun l => A i l * C l j) (dl i j) := by
  refine ⟨fun j => ⟨Int.emod_nonneg _ (by omega), Int.emod_lt_of_pos _ (by omega)⟩, fun j hj => ?_, ?_, fun C j hC hk => ?_⟩
  · unfold elim
    rw [sm_zero' fun d _ => if_neg (by omega), show dl i j = 0 from if_neg (by omega)]
    rfl
  · unfold elim
    rw [sm_zero' fun d _ => if_neg (by omega), show dl i i = 1 from if_pos rfl]
    exact Int.emod_eq_of_lt (by decide) hq
  · rw [sm_split (i := i) (by omega) fun k hk2 => by rw [hA k hk2]; omega]
    obtain ⟨m, hm⟩ : ∃ m, n - i = m + 1 := ⟨n - i - 1, by omega⟩
    rw [hm, sm_head]
    show Cg q (A i (i + 0) * C (i + 0) j + sm m fun k => A i (i + (k + 1)) * C (i + (k + 1)) j) (dl i j)
    rw [Nat.add_zero, h1, hC, Int.one_mul]
    have e : (sm m fun k => A i (i + (k + 1)) * C (i + (k + 1)) j) = sm (n - (i + 1)) fun d => if i + 1 + d ≤ j then A i (i + 1 + d) * B (i + 1 + d) j else 0 := by
      rw [show n - (i + 1) = m by omega]
      refine sm_congr fun d hd => ?_
      rw [show i + (d + 1) = i + 1 + d by omega, hk _ (by omega) (by omega)]
      split
      · rfl
      · rw [hB _ _ (by omega) (by omega) (by omega), Int.mul_zero]
    rw [e]
    have z := (Cg.mod q (elim A B i (n - (i + 1)) j)).add (Cg.refl q (sm (n - (i + 1)) fun d => if i + 1 + d ≤ j then A i (i + 1 + d) * B (i + 1 + d) j else 0))
    refine z.trans (.of_eq ?_)
    unfold elim
    omega
/-- the rows from lo on are those of the inverse -/
structure Part (K : PySem.W.Frag) (H : Hp) (q : Int) (n lo : Nat) (A B : Fm) (xs : List V) : Prop where
  at_ : ∀ k, lo ≤ k → k < n → ∃ t : Addr, xs[k]? = some (.ref t) ∧ SqT K H t ((fnRow n (B k)).map V.int)
  res : ∀ k j, lo ≤ k → k < n → j < n → 0 ≤ B k j ∧ B k j < q
  low : ∀ k j, lo ≤ k → k < n → j < k → B k j = 0
  one : ∀ k, lo ≤ k → k < n → B k k = 1
  inv : ∀ k j, lo ≤ k → k < n → j < n → Cg q (sm n fun l => A k l * B l j) (dl k j)
def sp_invert_unitriangular (K : PySem.W.Frag) : Sp := fun vs H Q _ => ∃ (v : V) (q : Int) (n : Nat) (M : Mx), vs = [v, .int q] ∧ Dp K H v (mat M) ∧ UT q n M ∧ 1 < q ∧ q ≤ 1000 ∧ n ≤ 1000 ∧
  ∀ (a : Addr) (H' : Hp) (B : Mx), Same H H' → Dp K H' (.ref a) (mat B) → InvOf q n (ent M) B → Q (.ref a) H'

abbrev s_invert_unitriangular : Stmt := top 3
theorem sc_invert_unitriangular : FnScope ["matrix", "modulus", "size", "inverse", "index"] ["matrix", "modulus"] (defScope s_invert_unitriangular) := ⟨rfl, rfl, rfl, by decide +kernel, rfl, by decide +kernel, by decide +kernel⟩
theorem ok_invert_unitriangular {f : Addr} {fd : FuncData} (F : Fun K "invert_unitriangular" "invert_unitriangular" s_invert_unitriangular f fd) (m_len : mg "len" = none) (m_list : mg "list" = none) (m_reversed : mg "reversed" = none) (m_tuple : mg "tuple" = none) (m_range : mg "range" = none) (c_identity_matrix : Cal P w K mg base "identity_matrix" 2 ["size"] (sp_identity_matrix K)) (c__inverse_row : Cal P w K mg base "_inverse_row" 2 ["row", "index", "inverse", "modulus"] (sp_inverse_row K)) : FnG P w K mg base CX0 3 f fd ["matrix", "modulus"] (sp_invert_unitriangular K) := by
  obtain ⟨f_identity_matrix, fd_identity_matrix, G_identity_matrix, m_identity_matrix, k_identity_matrix, b_identity_matrix⟩ := c_identity_matrix.ex
  obtain ⟨f__inverse_row, fd__inverse_row, G__inverse_row, m__inverse_row, k__inverse_row, b__inverse_row⟩ := c__inverse_row.ex
  refine okG F sc_invert_unitriangular (fun vs H Q E h => ?_) (fun cdv A' o s H vs Q E hr h => ?_)
  · obtain ⟨v, q, n, M, rfl, _⟩ := h
    rfl
  obtain ⟨v, q, n, M, rfl, hM, u, hq, hq2, hn, done⟩ := h
  obtain ⟨a, ys, rfl, hS, hl, hrow⟩ := mat_row hM
  refine ⟨_, (pss_cons (ps_set (i := 2) sc_invert_unitriangular.nd rfl (Or.inl rfl) (pe_callB call_len_seq (by rfl) m_len (by decide +kernel) (pa_cons (pv 0) pa_nil)))
      (pss_cons (ps_set (i := 3) sc_invert_unitriangular.nd rfl (Or.inl rfl) (pe_callTy call_list_of (by rfl) m_list (by decide +kernel) (pa_cons (ge_call G_identity_matrix (hr.mono (by decide)) (by rfl) m_identity_matrix k_identity_matrix b_identity_matrix .nil pass0 (pa_cons (pv 2) pa_nil)) pa_nil)))
      (pss_cons (ps_for PassesOwn.never rfl (pi_revR (by rfl) m_reversed (prg_1 rfl m_range (pv 2))) (pg_name (i := 4) sc_invert_unitriangular.nd rfl (Or.inl rfl)) (pss_one (ps_asg (ge_call G__inverse_row (hr.mono (by decide)) (by rfl) m__inverse_row k__inverse_row b__inverse_row .nil pass0 (pa_cons (pe_ix ix_tup (pv 0) (pv 4) (fun _ _ => rfl)) (pa_cons (pv 4) (pa_cons (pv 3) (pa_cons (pv 1) pa_nil))))) (pg_sub (pv 3) (pv 4) set_list))))
      (pss_one (ps_ret (pe_callTy call_tuple_of (by rfl) m_tuple (by decide +kernel) (pa_cons (pv 3) pa_nil))))))), ?_⟩
  refine ⟨_, rfl, a, _, rfl, .inr hS, ?_⟩
  rw [hl, u.s.h]
  refine ⟨_, rfl, n, rfl, hn, fun c H1 s1 hc => ?_⟩
  obtain ⟨c', xs0, ec, hcS, hcl, _⟩ := mat_row hc
  obtain rfl : c = c' := by injection ec
  refine ⟨c, _, rfl, .inr hcS, fun b hb => ?_⟩
  have hb0 : H b = none := Same.free s1 hb
  refine ⟨_, rfl, n, rfl, by omega, by omega, by omega, by omega, ?_⟩
  have e0 : (0 : Int) + ((((n : Int) - 0).toNat : Nat) : Int) - 1 = (n : Int) - 1 := by omega
  rw [e0, show ((n : Int) - 0).toNat = n by omega]
  refine for_rangeC (fun d σ' H' => Same H H' ∧ ∃ (xs : List V) (B : Fm) (x : Option V), H' b = some (.lst xs) ∧ xs.length = n ∧ Part K H' q n (n - d) (ent M) B xs ∧ σ' = [some (.ref a), some (.int q), some (.int (n : Int)), some (.ref b), x]) ?_ ?_ ?_
  · refine ⟨s1.trans (same_new hb _), xs0, dl, none, upd_same, by rw [hcl, (fnMx_sq n dl).h], ?_, rfl⟩
    exact ⟨fun k h1 h2 => absurd h1 (by omega), fun k j h1 h2 => absurd h1 (by omega), fun k j h1 h2 => absurd h1 (by omega), fun k h1 h2 => absurd h1 (by omega), fun k j h1 h2 => absurd h1 (by omega)⟩
  · rintro d σ' H' hd ⟨s2, xs, B, x, hB, hxl, hp, rfl⟩
    have hi : n - 1 - d < n := by omega
    have e1 : (n : Int) - 1 + ((d : Nat) : Int) * (-1) = ((n - 1 - d : Nat) : Int) := by omega
    rw [e1]
    obtain ⟨t, ht, hT⟩ := hrow (n - 1 - d) _ (row_ents u.s hi)
    have hAi : ∀ k, k < n → -1000 ≤ ent M (n - 1 - d) k ∧ ent M (n - 1 - d) k ≤ 1000 := fun k hk => by have := u.r (n - 1 - d) k hi hk; omega
    refine ⟨_, rfl, _, rfl, a, _, _, _, rfl, rfl, Same.seqT s2 hS, atI_nat ht, _, rfl, _, rfl, _, rfl, ?_⟩
    refine ⟨t, b, n - 1 - d, n, q, ent M, B, xs, rfl, by omega, hq2, hi, hn, Same.seqT s2 hT, hAi, hB, fun k h1 h2 => hp.at_ k (by omega) h2, ?_⟩
    intro r H3 s3 hr3
    refine ⟨_, rfl, _, rfl, b, xs, _, n - 1 - d, rfl, rfl, s3 _ _ hB, Evl.ixN_nat (by omega), ?_⟩
    obtain ⟨p1, p2, p3, p4⟩ := elim_row (A := ent M) (B := B) (i := n - 1 - d) (n := n) (q := q) hq hi (fun k hk => (u.u _ _ hi (by omega)).1 hk) ((u.u _ _ hi hi).2 rfl) (fun k j h1 h2 h3 => hp.low k j (by omega) h2 h3)
    have c3 : Chg H3 b := .inl ⟨xs, s3 _ _ hB⟩
    refine ⟨same_mut (s2.trans s3) hb0, xs.set (n - 1 - d) (.ref r), fun k => if k = n - 1 - d then fun j => elim (ent M) B (n - 1 - d) (n - (n - 1 - d + 1)) j % q else B k, _, upd_same, by rw [List.length_set]; exact hxl, ?_, rfl⟩
    have old : ∀ k, n - (d + 1) ≤ k → k < n → k ≠ n - 1 - d → n - d ≤ k := fun k h1 h2 h3 => by omega
    refine ⟨fun k h1 h2 => ?_, fun k j h1 h2 h3 => ?_, fun k j h1 h2 h3 => ?_, fun k h1 h2 => ?_, fun k j h1 h2 h3 => ?_⟩
    · by_cases e : k = n - 1 - d
      · subst e
        refine ⟨r, by rw [List.getElem?_set_self (by omega)], ?_⟩
        show SqT K _ r ((fnRow n (if n - 1 - d = n - 1 - d then _ else _)).map V.int)
        rw [if_pos rfl]
        exact c3.tup .upd hr3
      · obtain ⟨t', e1, k1⟩ := hp.at_ k (old k h1 h2 e) h2
        refine ⟨t', by rw [List.getElem?_set_ne (Ne.symm e)]; exact e1, ?_⟩
        show SqT K _ t' ((fnRow n (if k = n - 1 - d then _ else B k)).map V.int)
        rw [if_neg e]
        exact c3.tup .upd (Same.seqT s3 k1)
    · show 0 ≤ (if k = n - 1 - d then _ else B k) j ∧ (if k = n - 1 - d then _ else B k) j < q
      by_cases e : k = n - 1 - d
      · rw [if_pos e]; exact p1 j
      · rw [if_neg e]; exact hp.res k j (old k h1 h2 e) h2 h3
    · show (if k = n - 1 - d then _ else B k) j = 0
      by_cases e : k = n - 1 - d
      · rw [if_pos e]; exact p2 j (by omega)
      · rw [if_neg e]; exact hp.low k j (old k h1 h2 e) h2 h3
    · show (if k = n - 1 - d then _ else B k) k = 1
      by_cases e : k = n - 1 - d
      · rw [if_pos e, e]; exact p3
      · rw [if_neg e]; exact hp.one k (old k h1 h2 e) h2
    · by_cases e : k = n - 1 - d
      · subst e
        refine p4 _ j ?_ fun l h4 h5 => ?_
        · exact congrFun (if_pos rfl) j
        · exact congrFun (if_neg (show ¬ l = n - 1 - d by omega)) j
      · have z := hp.inv k j (old k h1 h2 e) h2 h3
        refine (Cg.of_eq (sm_congr fun l hl2 => ?_)).trans z
        show ent M k l * (if l = n - 1 - d then _ else B l) j = ent M k l * B l j
        by_cases e2 : l = n - 1 - d
        · rw [(u.u k l h2 hl2).1 (by omega), Int.zero_mul, Int.zero_mul]
        · rw [if_neg e2]
  · rintro σ' H' ⟨s2, xs, B, x, hB, hxl, hp, rfl⟩
    rw [Nat.sub_self] at hp
    have hD := rows_data (B := B) hxl fun k hk => hp.at_ k (Nat.zero_le _) hk
    refine ⟨_, rfl, b, xs, rfl, .inl ⟨SqL.of hB, fun l hl2 => ?_⟩⟩
    refine done l _ (fnMx n B) (s2.trans (same_new hl2 _)) (.tup (SqT.of upd_same) (dpAll_same (same_new hl2 _) _ _ hD)) ⟨⟨fnMx_sq _ _, fun i j hi hj => ?_, fun i j hi hj => ⟨fun l => ?_, fun l => ?_⟩⟩, fun i j hi hj => ?_⟩
    · rw [fnMx_ent _ hi hj]; exact hp.res i j (Nat.zero_le _) hi hj
    · rw [fnMx_ent _ hi hj]; exact hp.low i j (Nat.zero_le _) hi l
    · subst l; rw [fnMx_ent _ hi hj]; exact hp.one _ (Nat.zero_le _) hi
    · refine (Cg.of_eq (sm_congr fun l hl3 => ?_)).trans (hp.inv i j (Nat.zero_le _) hi hj)
      rw [fnMx_ent _ hl3 hj]

end
end Vk03

namespace Vk03
open PySem PySem.Spec PyProof.Rows L2 Vx
section
variable {P : Program} {w : World} {K : PySem.W.Frag} {mg : Str → Option Value} {base : Heap}
theorem data_ints {K : PySem.W.Frag} {H : Hp} : ∀ {ds : List PyData} {vs : List V} {q : Int}, DpAll K H vs ds → (∀ (k : Nat) d, ds[k]? = some d → ∃ x : Int, d = .int x ∧ 0 ≤ x ∧ x < q) → ∃ xs : List Int, vs = xs.map V.int ∧ xs.length = ds.length ∧ ∀ x ∈ xs, 0 ≤ x ∧ x < q
  | [], _, _, h, _ => by cases h; exact ⟨[], rfl, rfl, fun x hx => nomatch hx⟩
  | d :: ds, _, q, h, k => by
    cases h with
    | cons a b =>
      obtain ⟨x, rfl, h0, h1⟩ := k 0 d rfl
      obtain ⟨xs, e, l, hx⟩ := data_ints b fun i d' hd => k (i + 1) d' (by simpa using hd)
      refine ⟨x :: xs, by rw [dp_int a, e]; rfl, by rw [List.length_cons, l]; rfl, fun y hy => ?_⟩
      rcases List.mem_cons.mp hy with rfl | hy
      · exact ⟨h0, h1⟩
      · exact hx y hy
theorem rows_of {ds : List PyData} {q : Int} {n : Nat} (hl : ds.length = n) (h : ∀ (k : Nat) d, ds[k]? = some d → ∃ r, d = rowD r ∧ UtRow q n k r) : ∃ M : Mx, ds = M.map rowD ∧ UT q n M := by
  have : ∃ M : Mx, ds = M.map rowD ∧ ∀ k r, M[k]? = some r → UtRow q n k r := by
    have gen : ∀ (ds : List PyData) (o : Nat), (∀ (k : Nat) d, ds[k]? = some d → ∃ r, d = rowD r ∧ UtRow q n (o + k) r) → ∃ M : Mx, ds = M.map rowD ∧ ∀ k r, M[k]? = some r → UtRow q n (o + k) r := by
      intro ds
      induction ds with
      | nil => exact fun o _ => ⟨[], rfl, fun k r h => by simp at h⟩
      | cons d ds ih =>
        intro o h
        obtain ⟨r, rfl, hr⟩ := h 0 d rfl
        obtain ⟨M, rfl, hM⟩ := ih (o + 1) fun k d' hd => by
          have := h (k + 1) d' (by simpa using hd)
          rwa [show o + (k + 1) = o + 1 + k by omega] at this
        refine ⟨r :: M, rfl, fun k r' hk => ?_⟩
        match k, hk with
        | 0, hk =>
          obtain rfl : r = r' := by simpa using hk
          exact hr
        | k + 1, hk =>
          have := hM k r' (by simpa using hk)
          rwa [show o + 1 + k = o + (k + 1) by omega] at this
    obtain ⟨M, e, k⟩ := gen ds 0 fun k d hd => by rw [Nat.zero_add]; exact h k d hd
    exact ⟨M, e, fun k' r hk => by have := k k' r hk; rwa [Nat.zero_add] at this⟩
  obtain ⟨M, rfl, k⟩ := this
  exact ⟨M, rfl, ut_rows (by rw [← hl, List.length_map]) k⟩
theorem flat_rep (i : Nat) (x : Int) : (List.replicate i [V.int x]).flatten = (List.replicate i x).map V.int := by
  induction i with
  | zero => rfl
  | succ i ih => rw [List.replicate_succ, List.replicate_succ, List.flatten_cons, ih]; rfl
def sp_law_unitriangular (K : PySem.W.Frag) : Sp := fun vs H Q _ => ∃ (p : Addr) (q : Int) (n : Nat), vs = [.ref p, .int q, .int (n : Int)] ∧ Pen K H p ∧ 2 ≤ q ∧ q ≤ 1000 ∧ n ≤ 100 ∧
  ∀ (a : Addr) (H' : Hp) (M : Mx), Dr p H H' → Dp K H' (.ref a) (mat M) → UT q n M → Q (.ref a) H'

abbrev s_law_unitriangular : Stmt := top 10
theorem sc_law_unitriangular : FnScope ["pen", "q", "length_here", "rows", "i", "j"] ["pen", "q", "length_here"] (defScope s_law_unitriangular) := ⟨rfl, rfl, rfl, by decide +kernel, rfl, by decide +kernel, by decide +kernel⟩
theorem ok_law_unitriangular {f : Addr} {fd : FuncData} (F : Fun K "_law_unitriangular" "_law_unitriangular" s_law_unitriangular f fd) (m_range : mg "range" = none) (m_tuple : mg "tuple" = none) (c__law_draw : Cal P w K mg base "_law_draw" 2 ["pen", "bound"] (sp_law_draw K)) : FnG P w K mg base CX0 3 f fd ["pen", "q", "length_here"] (sp_law_unitriangular K) := by
  obtain ⟨f__law_draw, fd__law_draw, G__law_draw, m__law_draw, k__law_draw, b__law_draw⟩ := c__law_draw.ex
  refine okG F sc_law_unitriangular (fun vs H Q E h => ?_) (fun cdv A' o s H vs Q E hr h => ?_)
  · obtain ⟨p, q, n, rfl, _⟩ := h
    rfl
  obtain ⟨p, q, n, rfl, hP, hq, hq2, hn, done⟩ := h
  refine ⟨_, (pss_cons (ps_set (i := 3) sc_law_unitriangular.nd rfl (Or.inl rfl) (pe_lst pa_nil))
      (pss_cons (ps_for PassesOwn.never rfl (pi_range1 rfl m_range (pa_cons (pv 2) pa_nil)) (pg_name (i := 4) sc_law_unitriangular.nd rfl (Or.inl rfl)) (pss_one (ps_expr (pe_bm PySem.F.plainAttrs_list PySem.F.slot_list_append PySem.F.type_list_append mt_append (pv 3) (pa_cons (pe_op op_catS (pe_op op_catS (pe_op op_repS (pe_tup (pa_cons pe_int pa_nil)) (pv 4)) (pe_tup (pa_cons pe_int pa_nil))) (pe_callTy call_tuple_of (by rfl) m_tuple (by decide +kernel) (pa_cons (pe_lc (own := [("j", 5)]) (g := (gName 5)) (by rfl) sc_law_unitriangular.nd (pi_range2 rfl m_range (pa_cons (pe_op op_add (pv 4) pe_int) (pa_cons (pv 2) pa_nil))) (blkOk_by (own := [("j", 5)]) (by kernel_rfl)) (fun _ _ _ _ _ => (pg_name (i := 5) sc_law_unitriangular.nd rfl (Or.inl rfl))) (fun _ _ _ _ _ => pts_nil) (fun _ _ _ _ _ => (ge_call G__law_draw (hr.mono (by decide)) (by rfl) m__law_draw k__law_draw b__law_draw .nil pass0 (pa_cons (pv 0) (pa_cons (pv 1) pa_nil))))) pa_nil))) pa_nil)))))
      (pss_one (ps_ret (pe_callTy call_tuple_of (by rfl) m_tuple (by decide +kernel) (pa_cons (pv 3) pa_nil)))))), ?_⟩
  refine ⟨Nat.zero_le _, fun R hR => ?_⟩
  have nR : R ≠ p := hP.free hR
  refine ⟨_, rfl, _, rfl, by omega, by omega, ?_⟩
  rw [Int.toNat_natCast]
  refine for_range (fun i σ' H' => Made K R (fun k d => ∃ r, d = rowD r ∧ UtRow q n k r) (Dr p H) i H' ∧ ∃ x, σ' = [some (.ref p), some (.int q), some (.int (n : Int)), some (.ref R), x, none]) ?_ ?_ ?_
  · exact ⟨.start (.new hR _), none, rfl⟩
  · rintro i σ' H' hi ⟨m, x, rfl⟩
    obtain ⟨acc, ds, eR, k, no, hl, hk, gb⟩ := id m
    have gP := gb.pen hP
    refine ⟨_, rfl, .inl ⟨rfl, _, SqL.of eR⟩, ?_⟩
    refine ⟨(by show 1 ≤ sizeLine; decide), fun t1 ht1 => ?_⟩
    have s1 := same_new ht1 (.tup [V.int 0])
    refine ⟨_, rfl, t1, _, _, rfl, rfl, SqT.of upd_same, (by simp), by omega, by omega, by decide, fun r1 H1 s2 hr1 => ?_⟩
    rw [show ((0 : Int) + (i : Int)).toNat = i by omega, flat_rep] at hr1
    refine ⟨(by show 1 ≤ sizeLine; decide), fun t2 ht2 => ?_⟩
    have s3 := same_new ht2 (.tup [V.int 1])
    refine ⟨r1, t2, _, _, rfl, rfl, Same.seqT s3 hr1, SqT.of upd_same, (by rw [List.length_map, List.length_replicate]; exact Nat.le_of_lt (small1000 (by simp; omega))), fun r2 H2 s4 hr2 => ?_⟩
    have sA : Same H' H2 := s1.trans (s2.trans (s3.trans s4))
    have P2 : Pen K H2 p := gP.same sA
    refine ⟨_, rfl, _, _, rfl, rfl, _, rfl, _, _, rfl, ⟨by omega, by omega, by omega, by omega⟩, fun D hD => ?_⟩
    have nD : D ≠ p := P2.free hD
    refine lc_rangeD (K := K) (Dr p H2) (fun k d => ∃ x : Int, d = .int x ∧ 0 ≤ x ∧ x < q) (by omega) (.new hD _) (fun _ => rfl) ?_ ?_
    · intro j H3 hj m3 Q' q'
      obtain ⟨acc3, ds3, e3, k3, _, _, _, g3⟩ := m3
      have P3 := g3.pen P2
      refine ⟨_, rfl, _, rfl, p, q, rfl, P3, by omega, by omega, fun H4 y b4 y0 y1 => ?_⟩
      exact q' _ _ _ (.but b4.but P3.chg e3 nD) rfl (.int y) ⟨y, rfl, y0, y1⟩ fun acc' => (g3.trans b4).mut P2 hD
    · rintro H3 ⟨acc3, ds3, e3, k3, no3, hl3, hk3, g3⟩
      obtain ⟨xs, rfl, hxl, hxs⟩ := data_ints k3 hk3
      refine ⟨D, _, rfl, .inl ⟨SqL.of e3, fun l hl => ?_⟩⟩
      have s5 := same_new hl (.tup (xs.map V.int))
      have hr3 := Same.seqT s5 (P2.chg.tup g3.but hr2)
      refine ⟨r2, l, _, _, rfl, rfl, hr3, SqT.of upd_same, ?_, fun r4 H4 s6 hr4 => ?_⟩
      · rw [List.length_append, List.length_map, List.length_replicate, List.length_map, hxl, hl3]
        exact Nat.le_of_lt (small1000 (by simp; omega))
      have bA : Dr p H' H4 := (Dr.same sA).trans (g3.trans (.same (s5.trans s6)))
      have row : UtRow q n i (List.replicate i 0 ++ [1] ++ xs) := ut_row_of (by omega) hi (by rw [hxl, hl3]; omega) hxs
      have hr5 : SqT K H4 r4 ((List.replicate i 0 ++ [1] ++ xs).map V.int) := by rw [List.map_append, List.map_append]; exact hr4
      obtain ⟨acc', e', lt', m'⟩ := m.next (.but bA.but gP.chg eR nR) (noL_row _) (dp_row hr5) ⟨_, rfl, row⟩ (by omega) fun acc' => (gb.trans bA).mut hP hR
      exact ⟨R, acc', _, rfl, rfl, e', lt', m', _, rfl⟩
  · rintro σ' H' ⟨⟨acc, ds, eR, k, no, hl, hk, gb⟩, x, rfl⟩
    obtain ⟨M, rfl, hM⟩ := rows_of hl hk
    refine ⟨_, rfl, R, _, rfl, .inl ⟨SqL.of eR, fun l hl2 => ?_⟩⟩
    exact done l _ M (gb.trans (.new hl2 _)) (.tup (SqT.of upd_same) (dpAll_same (same_new hl2 _) _ _ k)) hM


def sp_law_product (K : PySem.W.Frag) : Sp := fun vs H Q _ => ∃ (v1 v2 : V) (q : Int) (n : Nat) (A B : Mx), vs = [v1, v2, .int q] ∧ Dp K H v1 (mat A) ∧ Dp K H v2 (mat B) ∧ Sq n A ∧ Sq n B ∧ (∀ i j, i < n → j < n → -1000 ≤ ent A i j ∧ ent A i j ≤ 1000) ∧ 0 < q ∧ n ≤ 100 ∧
  someD K (mat (prod q n (ent A) (ent B))) H Q

abbrev s_law_product : Stmt := top 11
theorem sc_law_product : FnScope ["left", "right", "q", "length_here", "rows", "i", "row", "j", "total", "k"] ["left", "right", "q"] (defScope s_law_product) := ⟨rfl, rfl, rfl, by decide +kernel, rfl, by decide +kernel, by decide +kernel⟩
theorem ok_law_product {f : Addr} {fd : FuncData} (F : Fun K "_law_product" "_law_product" s_law_product f fd) (m_len : mg "len" = none) (m_range : mg "range" = none) (m_tuple : mg "tuple" = none) : FnG P w K mg base CX0 1 f fd ["left", "right", "q"] (sp_law_product K) := by
  refine okG F sc_law_product (fun vs H Q E h => ?_) (fun cdv A' o s H vs Q E hr h => ?_)
  · obtain ⟨v1, v2, q, n, A, B, rfl, _⟩ := h
    rfl
  obtain ⟨v1, v2, q, n, A, B, rfl, hA, hB, sA, sB, hb, hq, hn, done⟩ := h
  obtain ⟨a, xs, rfl, hS, hl, hrow⟩ := mat_row hA
  obtain ⟨b, ys, rfl, hS2, hl2, hrow2⟩ := mat_row hB
  refine ⟨_, (pss_cons (ps_set (i := 3) sc_law_product.nd rfl (Or.inl rfl) (pe_callB call_len_seq (by rfl) m_len (by decide +kernel) (pa_cons (pv 0) pa_nil)))
      (pss_cons (ps_set (i := 4) sc_law_product.nd rfl (Or.inl rfl) (pe_lst pa_nil))
      (pss_cons (ps_for PassesOwn.never rfl (pi_range1 rfl m_range (pa_cons (pv 3) pa_nil)) (pg_name (i := 5) sc_law_product.nd rfl (Or.inl rfl)) (pss_cons (ps_set (i := 6) sc_law_product.nd rfl (Or.inl rfl) (pe_lst pa_nil))
      (pss_cons (ps_for PassesOwn.never rfl (pi_range1 rfl m_range (pa_cons (pv 3) pa_nil)) (pg_name (i := 7) sc_law_product.nd rfl (Or.inl rfl)) (pss_cons (ps_set (i := 8) sc_law_product.nd rfl (Or.inl rfl) pe_int)
      (pss_cons (ps_for PassesOwn.never rfl (pi_range1 rfl m_range (pa_cons (pv 3) pa_nil)) (pg_name (i := 9) sc_law_product.nd rfl (Or.inl rfl)) (pss_one (ps_set (i := 8) sc_law_product.nd rfl (Or.inl rfl) (pe_op op_add (pv 8) (pe_op op_mul (pe_ix ix_tup (pe_ix ix_tup (pv 0) (pv 5) (fun _ _ => rfl)) (pv 9) (fun _ _ => rfl)) (pe_ix ix_tup (pe_ix ix_tup (pv 1) (pv 9) (fun _ _ => rfl)) (pv 7) (fun _ _ => rfl)))))))
      (pss_one (ps_expr (pe_bm PySem.F.plainAttrs_list PySem.F.slot_list_append PySem.F.type_list_append mt_append (pv 6) (pa_cons (pe_op op_mod (pv 8) (pv 2)) pa_nil)))))))
      (pss_one (ps_expr (pe_bm PySem.F.plainAttrs_list PySem.F.slot_list_append PySem.F.type_list_append mt_append (pv 4) (pa_cons (pe_callTy call_tuple_of (by rfl) m_tuple (by decide +kernel) (pa_cons (pv 6) pa_nil)) pa_nil)))))))
      (pss_one (ps_ret (pe_callTy call_tuple_of (by rfl) m_tuple (by decide +kernel) (pa_cons (pv 4) pa_nil))))))), ?_⟩
  refine ⟨_, rfl, a, _, rfl, .inr hS, ?_⟩
  rw [hl, sA.h]
  refine ⟨Nat.zero_le _, fun R hR => ?_⟩
  refine ⟨_, rfl, _, rfl, by omega, by omega, ?_⟩
  rw [Int.toNat_natCast]
  refine for_range (fun i σ' H' => Made K R (fun k d => d = rowD (fnRow n fun j => mm n (ent A) (ent B) k j % q)) (Same H) i H' ∧ ∃ x5 x6 x7 x8 x9, σ' = [some (.ref a), some (.ref b), some (.int q), some (.int (n : Int)), some (.ref R), x5, x6, x7, x8, x9]) ?_ ?_ ?_
  · exact ⟨.start (same_new hR _), none, none, none, none, none, rfl⟩
  · rintro i σ' H' hi ⟨m, x5, x6, x7, x8, x9, rfl⟩
    obtain ⟨acc, ds, eR, k, no, hlen, hk, g⟩ := id m
    rw [show (0 : Int) + (i : Int) = (i : Int) by omega]
    refine ⟨Nat.zero_le _, fun W hW => ?_⟩
    refine ⟨_, rfl, _, rfl, by omega, by omega, ?_⟩
    rw [Int.toNat_natCast]
    obtain ⟨t1, ht1, hT1⟩ := hrow i _ (row_ents sA hi)
    refine for_range (fun j σ' H2 => Made K W (fun k d => d = .int (mm n (ent A) (ent B) i k % q)) (Same H') j H2 ∧ ∃ x7 x8 x9, σ' = [some (.ref a), some (.ref b), some (.int q), some (.int (n : Int)), some (.ref R), some (.int (i : Int)), some (.ref W), x7, x8, x9]) ?_ ?_ ?_
    · exact ⟨.start (same_new hW _), x7, x8, x9, rfl⟩
    · rintro j σ' H2 hj ⟨m2, x7, x8, x9, rfl⟩
      obtain ⟨acc2, ds2, eW, k2, no2, hlen2, hk2, g2⟩ := id m2
      rw [show (0 : Int) + (j : Int) = (j : Int) by omega]
      refine ⟨_, rfl, _, rfl, by omega, by omega, ?_⟩
      rw [Int.toNat_natCast]
      refine for_range (fun c σ' H3 => H3 = H2 ∧ ∃ x9, σ' = [some (.ref a), some (.ref b), some (.int q), some (.int (n : Int)), some (.ref R), some (.int (i : Int)), some (.ref W), some (.int (j : Int)), some (.int (sm c fun k => ent A i k * ent B k j)), x9]) ?_ ?_ ?_
      · exact ⟨rfl, x9, rfl⟩
      · rintro c σ' _ hc ⟨rfl, x9, rfl⟩
        rw [show (0 : Int) + (c : Int) = (c : Int) by omega]
        have s0 := g.trans g2
        obtain ⟨t2, ht2, hT2⟩ := hrow2 c _ (row_ents sB hc)
        refine ⟨_, rfl, _, rfl, _, rfl, a, _, _, _, rfl, rfl, Same.seqT s0 hS, atI_nat ht1, _, rfl, t1, _, _, _, rfl, rfl, Same.seqT s0 hT1, at_of (fnRow_get hc), ?_⟩
        refine ⟨_, rfl, _, rfl, b, _, _, _, rfl, rfl, Same.seqT s0 hS2, atI_nat ht2, _, rfl, t2, _, _, _, rfl, rfl, Same.seqT s0 hT2, at_of (fnRow_get hj), ?_⟩
        have bd := hb i c hi hc
        refine ⟨_, _, rfl, rfl, .inl ⟨by omega, by omega⟩, _, _, rfl, rfl, ?_⟩
        exact ⟨rfl, _, rfl⟩
      · rintro σ' _ ⟨rfl, x9, rfl⟩
        refine ⟨_, rfl, .inl ⟨rfl, _, SqL.of eW⟩, _, rfl, _, rfl, _, _, rfl, rfl, hq, ?_⟩
        obtain ⟨acc', e', lt', m'⟩ := m2.next (y := .int (mm n (ent A) (ent B) i j % q)) (d := .int (mm n (ent A) (ent B) i j % q)) (.same (Same.refl _) eW) rfl (.int _) rfl (by omega) fun acc' => same_mut g2 hW
        exact ⟨W, acc', _, rfl, rfl, e', lt', m', _, _, _, rfl⟩
    · rintro σ' H2 ⟨⟨acc2, ds2, eW, k2, no2, hlen2, hk2, g2⟩, x7, x8, x9, rfl⟩
      have e2 := made_eq (g := fun k => PyData.int (mm n (ent A) (ent B) i k % q)) hlen2 hk2
      have e3 : ds2 = (fnRow n fun j => mm n (ent A) (ent B) i j % q).map PyData.int := by rw [e2, fnRow, List.map_map]; rfl
      subst e3
      have e4 := dp_ints_eq k2
      subst e4
      refine ⟨_, rfl, .inl ⟨rfl, _, SqL.of (g2 _ _ eR)⟩, _, rfl, W, _, rfl, .inl ⟨SqL.of eW, fun l hl3 => ?_⟩⟩
      have s5 := g2.trans (same_new hl3 (.tup ((fnRow n fun j => mm n (ent A) (ent B) i j % q).map V.int)))
      obtain ⟨acc', e', lt', m'⟩ := m.next (y := .ref l) (d := rowD (fnRow n fun j => mm n (ent A) (ent B) i j % q)) (.same s5 eR) (noL_row _) (dp_row (SqT.of upd_same)) rfl (by omega) fun acc' => same_mut (g.trans s5) hR
      exact ⟨R, acc', _, rfl, rfl, e', lt', m', _, _, _, _, _, rfl⟩
  · rintro σ' H' ⟨⟨acc, ds, eR, k, no, hlen, hk, g⟩, x5, x6, x7, x8, x9, rfl⟩
    have e2 := made_eq (g := fun k => rowD (fnRow n fun j => mm n (ent A) (ent B) k j % q)) hlen hk
    have e3 : ds = (prod q n (ent A) (ent B)).map rowD := by rw [e2, prod, fnMx, List.map_map]; rfl
    subst e3
    refine ⟨_, rfl, R, _, rfl, .inl ⟨SqL.of eR, fun l hl3 => ?_⟩⟩
    exact done l _ (g.trans (same_new hl3 _)) (.tup (SqT.of upd_same) (dpAll_same (same_new hl3 _) _ _ k))


theorem flat_rep0 (i : Nat) : (List.replicate i [V.int 0]).flatten = (List.replicate i (0 : Int)).map V.int := flat_rep i 0
theorem dl_row {n i : Nat} (hi : i < n) : List.replicate i (0 : Int) ++ [1] ++ List.replicate (n - 1 - i) 0 = fnRow n (dl i) := by
  refine List.ext_getElem? fun k => ?_
  have l1 : (List.replicate i (0 : Int)).length = i := List.length_replicate
  have l2 : (List.replicate i (0 : Int) ++ [1]).length = i + 1 := by rw [List.length_append, l1]; rfl
  by_cases hk : k < n
  · rw [fnRow_get hk]
    by_cases h1 : k < i
    · rw [List.getElem?_append_left (by omega), List.getElem?_append_left (by omega), List.getElem?_replicate, if_pos h1, show dl i k = 0 from if_neg (by omega)]
    · by_cases h2 : k = i
      · subst h2
        rw [List.getElem?_append_left (by omega), List.getElem?_append_right (by omega), l1, Nat.sub_self, show dl k k = 1 from if_pos rfl]
        rfl
      · rw [List.getElem?_append_right (by omega), l2, List.getElem?_replicate, if_pos (by omega), show dl i k = 0 from if_neg (by omega)]
  · rw [List.getElem?_eq_none (by rw [List.length_append, l2, List.length_replicate]; omega), List.getElem?_eq_none (by rw [fnRow_len]; omega)]
def sp_law_identity (K : PySem.W.Frag) : Sp := fun vs H Q _ => ∃ n : Nat, vs = [.int (n : Int)] ∧ n ≤ 100 ∧ someD K (mat (fnMx n dl)) H Q

abbrev s_law_identity : Stmt := top 12
theorem sc_law_identity : FnScope ["length_here", "i"] ["length_here"] (defScope s_law_identity) := ⟨rfl, rfl, rfl, by decide +kernel, rfl, by decide +kernel, by decide +kernel⟩
theorem ok_law_identity {f : Addr} {fd : FuncData} (F : Fun K "_law_identity" "_law_identity" s_law_identity f fd) (m_tuple : mg "tuple" = none) (m_range : mg "range" = none) : FnG P w K mg base CX0 1 f fd ["length_here"] (sp_law_identity K) := by
  refine okG F sc_law_identity (fun vs H Q E h => ?_) (fun cdv A o s H vs Q E hr h => ?_)
  · obtain ⟨n, rfl, _⟩ := h
    rfl
  obtain ⟨n, rfl, hn, q⟩ := h
  refine ⟨_, (pss_one (ps_ret (pe_callTy call_tuple_of (by rfl) m_tuple (by decide +kernel) (pa_cons (pe_lc (own := [("i", 1)]) (g := (gName 1)) (by rfl) sc_law_identity.nd (pi_range1 rfl m_range (pa_cons (pv 0) pa_nil)) (blkOk_by (own := [("i", 1)]) (by kernel_rfl)) (fun _ _ _ _ _ => (pg_name (i := 1) sc_law_identity.nd rfl (Or.inl rfl))) (fun _ _ _ _ _ => pts_nil) (fun _ _ _ _ _ => (pe_op (op_catSK K) (pe_op (op_catSK K) (pe_op (op_repSK K) (pe_tup (pa_cons pe_int pa_nil)) (pv 1)) (pe_tup (pa_cons pe_int pa_nil))) (pe_op (op_repSK K) (pe_tup (pa_cons pe_int pa_nil)) (pe_op op_sub (pe_op op_sub (pv 0) pe_int) (pv 1)))))) pa_nil)))), ?_⟩
  refine ⟨_, rfl, _, rfl, by omega, by omega, fun D hD => lc_rangeD (K := K) (Same H) (fun k d => d = rowD (fnRow n (dl k))) (by simp; omega) (same_new hD _) (fun _ => rfl) ?_ ?_⟩
  · intro i H' hi m Q' q'
    rw [Int.toNat_natCast] at hi
    obtain ⟨acc, ds, e, _, _, _, _, g⟩ := m
    refine ⟨(by show 1 ≤ sizeLine; decide), fun t1 ht1 => ?_⟩
    have s1 := same_new ht1 (.tup [V.int 0])
    refine ⟨_, rfl, t1, _, _, rfl, rfl, SqT.of upd_same, (by simp), by omega, by omega, by decide, fun r1 H1 s2 hr1 => ?_⟩
    rw [show ((0 : Int) + (i : Int)).toNat = i by omega, flat_rep0] at hr1
    refine ⟨(by show 1 ≤ sizeLine; decide), fun t2 ht2 => ?_⟩
    have s3 := same_new ht2 (.tup [V.int 1])
    refine ⟨r1, t2, _, _, rfl, rfl, Same.seqT s3 hr1, SqT.of upd_same, (by rw [List.length_map, List.length_replicate]; exact Nat.le_of_lt (small1000 (by simp; omega))), fun r2 H2 s4 hr2 => ?_⟩
    refine ⟨(by show 1 ≤ sizeLine; decide), fun t3 ht3 => ?_⟩
    have s5 := same_new ht3 (.tup [V.int 0])
    refine ⟨_, rfl, _, _, rfl, rfl, _, rfl, _, _, rfl, rfl, t3, _, _, rfl, rfl, SqT.of upd_same, (by simp), by omega, by omega, by decide, fun r3 H3 s6 hr3 => ?_⟩
    rw [show ((n : Int) - 1 - ((0 : Int) + (i : Int))).toNat = n - 1 - i by omega, flat_rep0] at hr3
    refine ⟨r2, r3, _, _, rfl, rfl, Same.seqT (s5.trans s6) hr2, hr3, ?_, fun r4 H4 s7 hr4 => ?_⟩
    · rw [List.length_append, List.length_map, List.length_replicate, List.length_map, List.length_replicate]
      exact Nat.le_of_lt (small1000 (by simp; omega))
    have sA : Same H' H4 := s1.trans (s2.trans (s3.trans (s4.trans (s5.trans (s6.trans s7)))))
    have hr5 : SqT K H4 r4 ((fnRow n (dl i)).map V.int) := by rw [← dl_row hi, List.map_append, List.map_append]; exact hr4
    exact q' _ _ _ (.same sA e) (noL_row _) (dp_row hr5) rfl fun _ => same_mut (g.trans sA) hD
  · rintro H' ⟨acc, ds, e, k, no, hl, hk, g⟩
    rw [Int.toNat_natCast] at hl
    have e2 := made_eq (g := fun k => rowD (fnRow n (dl k))) hl hk
    have e3 : ds = (fnMx n dl).map rowD := by rw [e2, fnMx, List.map_map]; rfl
    rw [e3] at k
    exact ⟨D, _, rfl, .inl ⟨SqL.of e, fun l hl => q _ _ (g.trans (same_new hl _)) (.tup (SqT.of upd_same) (dpAll_same (same_new hl _) _ _ k))⟩⟩

end
end Vk03

namespace Vk03
open PySem PySem.Spec PyProof.Rows L2 Vx
section
variable {P : Program} {w : World} {K : PySem.W.Frag} {mg : Str → Option Value} {base : Heap}
def sp_law_is_unitriangular (K : PySem.W.Frag) : Sp := fun vs H Q _ => ∃ (v : V) (q : Int) (n : Nat) (M : Mx), vs = [v, .int q, .int (n : Int)] ∧ Dp K H v (mat M) ∧ UT q n M ∧ n ≤ 100 ∧ ∀ H', Same H H' → Q (.bl true) H'

abbrev s_law_is_unitriangular : Stmt := top 13
theorem sc_law_is_unitriangular : FnScope ["rows", "q", "length", "i", "row", "entry"] ["rows", "q", "length"] (defScope s_law_is_unitriangular) := ⟨rfl, rfl, rfl, by decide +kernel, rfl, by decide +kernel, by decide +kernel⟩
theorem ok_law_is_unitriangular {f : Addr} {fd : FuncData} (F : Fun K "_law_is_unitriangular" "_law_is_unitriangular" s_law_is_unitriangular f fd) (m_enumerate : mg "enumerate" = none) (m_isinstance : mg "isinstance" = none) (m_tuple : mg "tuple" = none) (m_len : mg "len" = none) (m_bool : mg "bool" = none) (m_int : mg "int" = none) : FnG P w K mg base CX0 1 f fd ["rows", "q", "length"] (sp_law_is_unitriangular K) := by
  refine okG F sc_law_is_unitriangular (fun vs H Q E h => ?_) (fun cdv A' o s H vs Q E hr h => ?_)
  · obtain ⟨v, q, n, M, rfl, _⟩ := h
    rfl
  obtain ⟨v, q, n, M, rfl, hM, u, hn, done⟩ := h
  obtain ⟨a, xs, rfl, hS, hl, hrow⟩ := mat_row hM
  have hln : xs.length = n := by rw [hl, u.s.h]
  refine ⟨_, (Evl.pss_cut (ps_if (PW.pt (pw_or (pt_not (pt_val (pe_callB call_isi (by rfl) m_isinstance (by decide +kernel) (pa_cons (pv 0) (pa_cons (pe_bltn (v := .ty "tuple") (by rfl) m_tuple (by decide +kernel) rfl) pa_nil))))) (pw_or1 (pt_cmpR op_ne (pe_callB call_len_seq (by rfl) m_len (by decide +kernel) (pa_cons (pv 0) pa_nil)) (pv 2) (nomark _))))) (pss_one (ps_ret pe_bl)) pss_nil)
      (pss_cons (ps_for PassesOwn.never rfl (pi_enumT (by rfl) m_enumerate (pa_cons (pv 0) pa_nil)) (pg_tup rfl (pgs_cons (pg_name (i := 3) sc_law_is_unitriangular.nd rfl (Or.inl rfl)) (pgs_cons (pg_name (i := 4) sc_law_is_unitriangular.nd rfl (Or.inl rfl)) pgs_nil))) (Evl.pss_cut (ps_if (PW.pt (pw_or (pt_not (pt_val (pe_callB call_isi (by rfl) m_isinstance (by decide +kernel) (pa_cons (pv 4) (pa_cons (pe_bltn (v := .ty "tuple") (by rfl) m_tuple (by decide +kernel) rfl) pa_nil))))) (pw_or (pt_cmpR op_ne (pe_callB call_len_seq (by rfl) m_len (by decide +kernel) (pa_cons (pv 4) pa_nil)) (pv 2) (nomark _)) (pw_or1 (pt_cmpR (op_neD hr.r.units) (pe_slice sl_tupS (pv 4) po_none (po_some (pe_op op_add (pv 3) pe_int))) (pe_op op_catS (pe_op op_repS (pe_tup (pa_cons pe_int pa_nil)) (pv 3)) (pe_tup (pa_cons pe_int pa_nil))) (nomark _)))))) (pss_one (ps_ret pe_bl)) pss_nil)
      (pss_one (ps_for PassesOwn.never rfl (pi_tup (pv 4)) (pg_name (i := 5) sc_law_is_unitriangular.nd rfl (Or.inl rfl)) (pss_one (ps_if (PW.pt (pw_or (pt_not (pt_val (pe_callB call_isi (by rfl) m_isinstance (by decide +kernel) (pa_cons (pv 5) (pa_cons (pe_bltn (v := .ty "int") (by rfl) m_int (by decide +kernel) rfl) pa_nil))))) (pw_or (pt_val (pe_callB call_isi (by rfl) m_isinstance (by decide +kernel) (pa_cons (pv 5) (pa_cons (pe_bltn (v := .ty "bool") (by rfl) m_bool (by decide +kernel) rfl) pa_nil)))) (pw_or (pt_cmpR op_lt (pv 5) pe_int (nomark _)) (pw_or1 (pt_cmpR op_ge (pv 5) (pv 1) (nomark _))))))) (pss_one (ps_ret pe_bl)) pss_nil))))))
      (pss_one (ps_ret pe_bl)))), ?_⟩
  refine ⟨fun σ' H' => σ' = [some (.ref a), some (.int q), some (.int (n : Int)), none, none, none] ∧ H' = H, ?_, ?_⟩
  · refine ⟨_, rfl, _, _, _, _, true, rfl, .ty _, ty_tup hS, kit_ty (by decide +kernel), true, rfl, ?_⟩
    refine iteF ?_
    refine ⟨_, rfl, a, _, rfl, .inr hS, _, rfl, rfl, _, rfl, ?_⟩
    rw [hln]
    rw [show (!decide (V.int (n : Int) = V.int (n : Int))) = false by rw [decide_eq_true rfl]; rfl]
    exact iteF ⟨rfl, rfl⟩
  rintro _ H0 ⟨rfl, rfl⟩
  refine ⟨_, rfl, a, _, rfl, hS, for_enumT (K := K) (a := a) (xs := xs) (fun i σ' H' => Same H0 H' ∧ ∃ x3 x4 x5, σ' = [some (.ref a), some (.int q), some (.int (n : Int)), x3, x4, x5]) ⟨Same.refl _, none, none, none, rfl⟩ (fun i ρ h _ p => Same.seqT p.1 hS) ?_ ?_⟩
  · rintro i x T ρ h hx ⟨g, x3, x4, x5, rfl⟩ hT
    have hi : i < n := by have := (List.getElem?_eq_some_iff.mp hx).1; omega
    obtain ⟨r, er, hlr, _⟩ := row_get u.s hi
    have ur := ut_row u hi er
    obtain ⟨t, et, hTt⟩ := hrow i r er
    obtain rfl : x = .ref t := by rw [et] at hx; exact (Option.some.inj hx).symm
    have sT := same_new hT (.tup [V.int (i : Nat), V.ref t])
    have g1 := g.trans sT
    have hTt1 := Same.seqT g1 hTt
    refine ⟨T, _, rfl, SqT.of upd_same, rfl, _, _, rfl, _, _, rfl, rfl, ?_⟩
    refine ⟨fun σ' H' => Same H0 H' ∧ ∃ x5, σ' = [some (.ref a), some (.int q), some (.int (n : Int)), some (.int (i : Int)), some (.ref t), x5], ?_, ?_⟩
    · refine ⟨_, rfl, _, _, _, _, true, rfl, .ty _, ty_tup hTt1, kit_ty (by decide +kernel), true, rfl, ?_⟩
      refine iteF ?_
      refine ⟨_, rfl, t, _, rfl, .inr hTt1, _, rfl, rfl, _, rfl, ?_⟩
      rw [List.length_map, hlr, show (!decide (V.int (n : Int) = V.int (n : Int))) = false by rw [decide_eq_true rfl]; rfl]
      refine iteF ?_
      refine ⟨_, rfl, _, rfl, _, _, rfl, rfl, (i : Int) + 1, rfl, t, _, rfl, hTt1, fun c1 H1 s1 hc1 => ?_⟩
      rw [show (i : Int) + 1 = ((i + 1 : Nat) : Int) by omega, cutV_take, ← List.map_take, ut_take ur hi] at hc1
      refine ⟨(by show 1 ≤ sizeLine; decide), fun t1 ht1 => ?_⟩
      have s2 := same_new ht1 (.tup [V.int 0])
      refine ⟨_, rfl, t1, _, _, rfl, rfl, SqT.of upd_same, (by simp), by omega, by omega, by decide, fun r1 H2 s3 hr1 => ?_⟩
      rw [show ((i : Int)).toNat = i by omega, flat_rep0] at hr1
      refine ⟨(by show 1 ≤ sizeLine; decide), fun t2 ht2 => ?_⟩
      have s4 := same_new ht2 (.tup [V.int 1])
      refine ⟨r1, t2, _, _, rfl, rfl, Same.seqT s4 hr1, SqT.of upd_same, (by rw [List.length_map, List.length_replicate]; exact Nat.le_of_lt (small1000 (by simp; omega))), fun r2 H3 s5 hr2 => ?_⟩
      have hc3 := Same.seqT (s2.trans (s3.trans (s4.trans s5))) hc1
      have hr3 : SqT K H3 r2 ((List.replicate i 0 ++ [1] : List Int).map V.int) := by rw [List.map_append]; exact hr2
      refine ⟨_, _, dp_row hc3, dp_row hr3, shaped_row _, shaped_row _, _, rfl, ?_⟩
      refine ne_same (shaped_row _) ⟨g1.trans (s1.trans (s2.trans (s3.trans (s4.trans s5)))), _, rfl⟩
    · rintro σ' H' ⟨g2, x5, rfl⟩
      have hT2 := Same.seqT g2 hTt
      refine ⟨_, rfl, t, rfl, ⟨_, hT2⟩, for_tup (K := K) (a := t) (xs := r.map V.int) (fun j σ' H2 => H2 = H' ∧ ∃ x5, σ' = [some (.ref a), some (.int q), some (.int (n : Int)), some (.int (i : Int)), some (.ref t), x5]) ⟨rfl, _, rfl⟩ (fun j ρ h _ p => by rw [p.1]; exact hT2) ?_ ?_⟩
      · rintro j x ρ _ hx2 ⟨rfl, x5, rfl⟩
        obtain ⟨z, hz, rfl⟩ : ∃ z, r[j]? = some z ∧ x = .int z := by
          rw [List.getElem?_map] at hx2
          cases e : r[j]? with
          | none => rw [e] at hx2; cases hx2
          | some z => rw [e] at hx2; exact ⟨z, rfl, (Option.some.inj hx2).symm⟩
        obtain ⟨z0, z1⟩ := ur.2.2.2 j z hz
        refine ⟨_, rfl, _, _, _, _, true, rfl, .ty _, .base (.int _), kit_ty (by decide +kernel), true, rfl, ?_⟩
        refine iteF ?_
        refine ⟨_, rfl, _, _, _, _, false, rfl, .ty _, .base (.int _), kit_ty (by decide +kernel), false, rfl, ?_⟩
        refine iteF ?_
        refine ⟨_, rfl, _, _, rfl, rfl, _, rfl, ?_⟩
        rw [decide_eq_false (by omega)]
        refine iteF ?_
        refine ⟨_, rfl, _, rfl, _, _, rfl, rfl, _, rfl, ?_⟩
        rw [decide_eq_false (by omega)]
        exact iteF ⟨rfl, _, rfl⟩
      · rintro ρ _ ⟨rfl, x5, rfl⟩
        exact ⟨g2, _, _, _, rfl⟩
  · rintro ρ h ⟨g, x3, x4, x5, rfl⟩
    exact done h g

end
end Vk03

namespace Vk03
open PySem PySem.Spec PyProof.Rows L2 Vx
section
variable {P : Program} {w : World} {K : PySem.W.Frag} {mg : Str → Option Value} {base : Heap}
/-- rows that may change: the lists at ts hold the rows of B -/
def Rows (H : Hp) (ts : List Addr) (n : Nat) (B : Fm) : Prop := ts.length = n ∧ ts.Nodup ∧ ∀ k, k < n → ∃ t, ts[k]? = some t ∧ H t = some (.lst ((fnRow n (B k)).map V.int))
def sp_law_single (K : PySem.W.Frag) : Sp := fun vs H Q _ => ∃ (p : Addr) (q : Int) (n : Nat), vs = [.ref p, .int q, .int (n : Int)] ∧ Pen K H p ∧ 2 ≤ q ∧ q ≤ 1000 ∧ n ≤ 100 ∧
  ∀ (a : Addr) (H' : Hp) (M : Mx), Dr p H H' → Dp K H' (.ref a) (mat M) → UT q n M → Q (.ref a) H'
theorem ints_refs {r : List Int} {ts : List Addr} (h : 0 < r.length) : r.map V.int ≠ ts.map V.ref := fun e => by
  cases r with
  | nil => exact absurd h (by decide)
  | cons a r =>
    cases ts with
    | nil => cases e
    | cons b ts => cases e
theorem dl_ut {q : Int} {n k : Nat} (hq : 2 ≤ q) (hk : k < n) : UtRow q n k (fnRow n (dl k)) := by
  refine ⟨fnRow_len _ _, fun j hj => ?_, ?_, fun j x hx => ?_⟩
  · rw [fnRow_get (by omega), show dl k j = 0 from if_neg (by omega)]
  · rw [fnRow_get hk, show dl k k = 1 from if_pos rfl]
  · have hj : j < n := by have := (List.getElem?_eq_some_iff.mp hx).1; rwa [fnRow_len] at this
    rw [fnRow_get hj] at hx
    obtain rfl := Option.some.inj hx
    show 0 ≤ (if k = j then (1 : Int) else 0) ∧ (if k = j then (1 : Int) else 0) < q
    split <;> omega

abbrev s_law_single : Stmt := top 14
theorem sc_law_single : FnScope ["pen", "q", "length", "rows", "row", "i"] ["pen", "q", "length"] (defScope s_law_single) := ⟨rfl, rfl, rfl, by decide +kernel, rfl, by decide +kernel, by decide +kernel⟩
theorem ok_law_single {f : Addr} {fd : FuncData} (F : Fun K "_law_single" "_law_single" s_law_single f fd) (m_tuple : mg "tuple" = none) (m_list : mg "list" = none) (c__law_draw : Cal P w K mg base "_law_draw" 2 ["pen", "bound"] (sp_law_draw K)) (c__law_identity : Cal P w K mg base "_law_identity" 1 ["length_here"] (sp_law_identity K)) : FnG P w K mg base CX0 3 f fd ["pen", "q", "length"] (sp_law_single K) := by
  obtain ⟨f__law_draw, fd__law_draw, G__law_draw, m__law_draw, k__law_draw, b__law_draw⟩ := c__law_draw.ex
  obtain ⟨f__law_identity, fd__law_identity, G__law_identity, m__law_identity, k__law_identity, b__law_identity⟩ := c__law_identity.ex
  refine okG F sc_law_single (fun vs H Q E h => ?_) (fun cdv A' o s H vs Q E hr h => ?_)
  · obtain ⟨p, q, n, rfl, _⟩ := h
    rfl
  obtain ⟨p, q, n, rfl, hP, hq, hq2, hn, done⟩ := h
  refine ⟨_, (pss_cons (ps_setLc (i := 3) (own := [("row", 4)]) (g := (gName 4)) (by rfl) sc_law_single.nd rfl rfl (sw_true rfl rfl rfl (by decide +kernel)) (pi_tup (ge_call G__law_identity (hr.mono (by decide)) (by rfl) m__law_identity k__law_identity b__law_identity .nil pass0 (pa_cons (pv 2) pa_nil))) (blkOk_by (own := [("row", 4)]) (by kernel_rfl)) (fun _ _ _ _ _ => (pg_name (i := 4) sc_law_single.nd rfl (Or.inl rfl))) (fun _ _ _ _ _ => pts_nil) (fun _ _ _ _ _ => (pe_callTy (call_list_ofK K) (by rfl) m_list (by decide +kernel) (pa_cons (pv 4) pa_nil))))
      (Evl.pss_cut (ps_if (pt_cmpR op_gt (pv 2) pe_int (nomark _)) (pss_cons (ps_set (i := 5) sc_law_single.nd rfl (Or.inl rfl) (ge_call G__law_draw (hr.mono (by decide)) (by rfl) m__law_draw k__law_draw b__law_draw .nil pass0 (pa_cons (pv 0) (pa_cons (pe_op op_sub (pv 2) pe_int) pa_nil))))
      (pss_one (ps_asg (pe_op op_sub (pv 1) pe_int) (pg_sub (pe_ix ix_list (pv 3) (pv 5) (fun _ _ => rfl)) (pe_op op_add (pe_op op_add (pv 5) pe_int) (ge_call G__law_draw (hr.mono (by decide)) (by rfl) m__law_draw k__law_draw b__law_draw .nil pass0 (pa_cons (pv 0) (pa_cons (pe_op op_sub (pe_op op_sub (pv 2) pe_int) (pv 5)) pa_nil)))) set_list)))) pss_nil)
      (pss_one (ps_ret (pe_callTy call_tuple_of (by rfl) m_tuple (by decide +kernel) (pa_cons (pe_lc (own := [("row", 4)]) (g := (gName 4)) (by rfl) sc_law_single.nd (pi_list (pv 3)) (blkOk_by (own := [("row", 4)]) (by kernel_rfl)) (fun _ _ _ _ _ => (pg_name (i := 4) sc_law_single.nd rfl (Or.inl rfl))) (fun _ _ _ _ _ => pts_nil) (fun _ _ _ _ _ => (pe_callTy (call_tuple_ofK K) (by rfl) m_tuple (by decide +kernel) (pa_cons (pv 4) pa_nil)))) pa_nil)))))), ?_⟩
  refine ⟨_, rfl, n, rfl, hn, fun a H1 s1 hM => ?_⟩
  obtain ⟨a', xs, ea, hS, hl, hrow⟩ := mat_row hM
  obtain rfl : a = a' := by injection ea
  have hxl : xs.length = n := by rw [hl, (fnMx_sq n dl).h]
  refine ⟨a, rfl, ⟨_, hS⟩, fun R hR => ?_⟩
  have hR0 : H R = none := Same.free s1 hR
  refine lc_tup (K := K) (a := a) (xs := xs) (fun i H' => Same H1 H' ∧ ∃ ts : List Addr, H' R = some (.lst (ts.map V.ref)) ∧ ts.length = i ∧ ts.Nodup ∧ (∀ t ∈ ts, H1 t = none) ∧ ∀ k, k < i → ∃ t, ts[k]? = some t ∧ H' t = some (.lst ((fnRow n (dl k)).map V.int))) ?_ (fun i H' _ p => Same.seqT p.1 hS) ?_ ?_
  · exact ⟨same_new hR _, [], upd_same, rfl, .nil, (fun t h => nomatch h), fun k h => absurd h (by omega)⟩
  · rintro i x H' hx ⟨g, ts, eR, tl, nd, fr, rows⟩
    have hi : i < n := by have := (List.getElem?_eq_some_iff.mp hx).1; omega
    obtain ⟨t, et, hT⟩ := hrow i _ (row_ents (fnMx_sq n dl) hi)
    obtain rfl : x = .ref t := by rw [et] at hx; exact (Option.some.inj hx).symm
    have er : fnRow n (ent (fnMx n dl) i) = fnRow n (dl i) := fnRow_congr fun k hk => fnMx_ent dl hi hk
    rw [er] at hT
    refine ⟨rfl, ?_⟩
    refine ⟨_, rfl, t, _, rfl, .inr (Same.seqT g hT), fun l hl2 => ?_⟩
    have sl := same_new hl2 (.lst ((fnRow n (dl i)).map V.int))
    have lR : l ≠ R := fun e => by rw [e, eR] at hl2; cases hl2
    refine ⟨_, sl _ _ eR, by rw [List.length_map, tl]; exact small1000 (by omega), ?_⟩
    refine ⟨same_mut (g.trans sl) hR, ts ++ [l], by rw [upd_same, List.map_append]; rfl, by rw [List.length_append, tl]; rfl, ?_, ?_, ?_⟩
    · rw [List.nodup_append]
      refine ⟨nd, by simp, fun b hb c hc e => ?_⟩
      rw [List.mem_singleton] at hc
      subst hc
      subst e
      obtain ⟨k, hk, e⟩ := List.mem_iff_getElem.mp hb
      obtain ⟨t', e1, e2⟩ := rows k (by omega)
      rw [List.getElem?_eq_getElem hk, e] at e1
      rw [← Option.some.inj e1, hl2] at e2
      cases e2
    · intro b hb
      rcases List.mem_append.mp hb with hb | hb
      · exact fr b hb
      · rw [List.mem_singleton.mp hb]
        exact Same.free g hl2
    · intro k hk
      by_cases e : k = i
      · subst e
        exact ⟨l, by rw [List.getElem?_append_right (by omega), tl, Nat.sub_self]; rfl, by rw [upd_ne lR]; exact upd_same⟩
      · obtain ⟨t', e1, e2⟩ := rows k (by omega)
        have n1 : t' ≠ R := fun z => by
          rw [z, eR] at e2
          exact ints_refs (r := fnRow n (dl k)) (ts := ts) (by rw [fnRow_len]; omega) (by injection Option.some.inj e2 with e2; exact e2.symm)
        refine ⟨t', by rw [List.getElem?_append_left (by omega)]; exact e1, ?_⟩
        rw [upd_ne n1]
        exact sl _ _ e2
  · rintro H2 ⟨g, ts, eR, tl, nd, fr, rows⟩
    rw [hxl] at tl rows
    have d2 : Dr p H H2 := .same (s1.trans g)
    have P2 := d2.pen hP
    have fr0 : ∀ t ∈ ts, H t = none := fun t ht => Same.free s1 (fr t ht)
    have np : ∀ t ∈ ts, t ≠ p := fun t ht => hP.free (fr0 t ht)
    have nR : R ≠ p := hP.free hR0
    refine ⟨fun σ' H' => Dr p H H' ∧ H' R = some (.lst (ts.map V.ref)) ∧ ∃ (B : Fm) (x5 : Option V), (∀ k, k < n → UtRow q n k (fnRow n (B k))) ∧ (∀ k, k < n → ∃ t, ts[k]? = some t ∧ H' t = some (.lst ((fnRow n (B k)).map V.int))) ∧ σ' = [some (.ref p), some (.int q), some (.int (n : Int)), some (.ref R), none, x5], ?_, ?_⟩
    · refine ⟨_, rfl, _, _, rfl, rfl, _, rfl, ?_⟩
      refine ite2 (fun h1 => ?_) (fun _ => ?_)
      · have hn1 : (n : Int) > 1 := of_decide_eq_true h1
        refine ⟨_, rfl, _, rfl, _, _, rfl, rfl, p, (n : Int) - 1, rfl, P2, by omega, ?_, fun H3 i d3 i0 i1 => ?_⟩
        · have : ((n : Int) - 1).natAbs < 1000 := by omega
          exact Nat.lt_trans this (by decide)
        obtain ⟨k, rfl⟩ : ∃ k : Nat, i = (k : Int) := ⟨i.toNat, by omega⟩
        have hk : k < n := by omega
        have P3 := d3.pen P2
        obtain ⟨t, et, hT⟩ := rows k hk
        have htm : t ∈ ts := List.mem_of_getElem? et
        have e3 : H3 R = some (.lst (ts.map V.ref)) := d3.but _ _ nR eR
        have hT3 : H3 t = some (.lst ((fnRow n (dl k)).map V.int)) := d3.but _ _ (np t htm) hT
        refine ⟨_, rfl, _, _, rfl, rfl, _, rfl, _, rfl, R, _, _, .ref t, rfl, rfl, SqL.of e3, atI_nat (by rw [List.getElem?_map, et]; rfl), ?_⟩
        refine ⟨_, rfl, _, _, rfl, rfl, _, rfl, _, rfl, _, _, rfl, rfl, _, rfl, _, _, rfl, rfl, p, (n : Int) - 1 - (k : Int), rfl, P3, by omega, ?_, fun H4 y d4 y0 y1 => ?_⟩
        · have : ((n : Int) - 1 - (k : Int)).natAbs < 1000 := by omega
          exact Nat.lt_trans this (by decide)
        obtain ⟨j, hj⟩ : ∃ j : Nat, (k : Int) + 1 + y = (j : Int) := ⟨((k : Int) + 1 + y).toNat, by omega⟩
        have hjn : j < n := by omega
        have hT4 : H4 t = some (.lst ((fnRow n (dl k)).map V.int)) := d4.but _ _ (np t htm) hT3
        refine ⟨_, _, rfl, rfl, t, _, _, j, rfl, congrArg V.int hj, hT4, Evl.ixN_nat (by rw [List.length_map, fnRow_len]; exact hjn), ?_⟩
        have dA : Dr p H H4 := d2.trans (d3.trans d4)
        have tR : R ≠ t := fun e => by
          rw [← e, d4.but _ _ nR e3] at hT4
          exact ints_refs (r := fnRow n (dl k)) (ts := ts) (by rw [fnRow_len]; omega) (by injection Option.some.inj hT4 with e2; exact e2.symm)
        refine ⟨dA.mut hP (fr0 t htm), by rw [upd_ne tR]; exact d4.but _ _ nR e3, fun a b => if a = k ∧ b = j then q - 1 else dl a b, _, fun k' hk' => ?_, fun k' hk' => ?_, rfl⟩
        · have u := dl_ut (q := q) hq hk'
          refine ⟨fnRow_len _ _, fun j' hj' => ?_, ?_, fun j' x hx => ?_⟩
          · rw [fnRow_get (by omega)]
            show some (if k' = k ∧ j' = j then q - 1 else dl k' j') = some 0
            rw [if_neg (by omega), show dl k' j' = 0 from if_neg (by omega)]
          · rw [fnRow_get hk']
            show some (if k' = k ∧ k' = j then q - 1 else dl k' k') = some 1
            rw [if_neg (by omega), show dl k' k' = 1 from if_pos rfl]
          · have hj' : j' < n := by have := (List.getElem?_eq_some_iff.mp hx).1; rwa [fnRow_len] at this
            rw [fnRow_get hj'] at hx
            obtain rfl := Option.some.inj hx
            show 0 ≤ (if k' = k ∧ j' = j then q - 1 else dl k' j') ∧ (if k' = k ∧ j' = j then q - 1 else dl k' j') < q
            split
            · omega
            · exact u.2.2.2 j' _ (fnRow_get hj')
        · obtain ⟨t', e1, e2⟩ := rows k' hk'
          by_cases e : k' = k
          · subst e
            obtain rfl : t = t' := by rw [et] at e1; exact Option.some.inj e1
            refine ⟨t, et, ?_⟩
            rw [upd_same, fnRow_set (g := fun b => if k' = k' ∧ b = j then q - 1 else dl k' b) hjn (if_pos ⟨rfl, rfl⟩) fun z _ hz => if_neg fun hh => hz hh.2]
          · have ne : t' ≠ t := fun z => e ((List.getElem?_inj (by rw [tl]; exact hk') nd).mp (by rw [e1, et, z]))
            refine ⟨t', e1, ?_⟩
            rw [upd_ne ne, d4.but _ _ (np t' (List.mem_of_getElem? e1)) (d3.but _ _ (np t' (List.mem_of_getElem? e1)) e2)]
            exact congrArg (fun r => some (HO.lst (r.map V.int))) (fnRow_congr fun z _ => (show dl k' z = if k' = k ∧ z = j then q - 1 else dl k' z from (if_neg fun hh => e hh.1).symm))
      · exact ⟨d2, eR, dl, none, fun k hk => dl_ut hq hk, rows, rfl⟩
    · rintro σ' H' ⟨dA, eR', B, x5, hu, rows', rfl⟩
      refine ⟨_, rfl, R, rfl, ⟨_, SqL.of eR'⟩, fun D hD => lc_listD (K := K) (a := R) (xs := ts.map V.ref) (Same H') (fun k d => d = rowD (fnRow n (B k))) (by rw [List.length_map]; omega) (same_new hD _) (fun H3 g3 => g3.seq (SqL.of eR')) (fun _ => rfl) ?_ ?_⟩
      · intro k v H3 hk m Q' q'
        obtain ⟨acc, ds, ea, _, _, _, _, g3⟩ := m
        have hkn : k < n := by have := (List.getElem?_eq_some_iff.mp hk).1; rw [List.length_map] at this; omega
        obtain ⟨t, et, hT⟩ := rows' k hkn
        rw [List.getElem?_map, et] at hk
        obtain rfl : V.ref t = v := Option.some.inj hk
        refine ⟨_, rfl, t, _, rfl, .inl ⟨g3.seq (SqL.of hT), fun l hl => ?_⟩⟩
        exact q' _ _ _ (.same (same_new hl _) ea) (noL_row _) (dp_row (SqT.of upd_same)) rfl fun _ => same_mut (g3.trans (same_new hl _)) hD
      · rintro H3 ⟨acc, ds, ea, k, no, hlen, hk, g3⟩
        rw [List.length_map, tl] at hlen
        have e2 := made_eq (g := fun k => rowD (fnRow n (B k))) hlen hk
        have e3 : ds = (fnMx n B).map rowD := by rw [e2, fnMx, List.map_map]; rfl
        subst e3
        refine ⟨D, _, rfl, .inl ⟨SqL.of ea, fun l hl => ?_⟩⟩
        refine done l _ (fnMx n B) (dA.trans (.same (g3.trans (same_new hl _)))) (.tup (SqT.of upd_same) (dpAll_same (same_new hl _) _ _ k)) (ut_rows (fnMx_sq _ _).h fun i r hir => ?_)
        have hi : i < n := by have := (List.getElem?_eq_some_iff.mp hir).1; rwa [(fnMx_sq n B).h] at this
        have : (fnMx n B)[i]? = some (fnRow n (B i)) := by unfold fnMx; rw [List.getElem?_map, List.getElem?_range hi]; rfl
        rw [this] at hir
        obtain rfl := Option.some.inj hir
        exact hu i hi

def sp_law (K : PySem.W.Frag) : Sp := fun vs H Q _ => ∃ (a : Addr) (ns : List Int), vs = [.ref a] ∧ SqL K H a (ns.map V.int) ∧ ns.length ≤ 63 ∧ ∀ H', Q (.bl true) H'

abbrev s_law : Stmt := top 15
theorem sc_law : FnScope ["script", "pen", "turn", "q", "length", "rows", "before", "inverse", "neutral"] ["script"] (defScope s_law) := ⟨rfl, rfl, rfl, by decide +kernel, rfl, by decide +kernel, by decide +kernel⟩
theorem ok_law {f : Addr} {fd : FuncData} (F : Fun K "law" "law" s_law f fd) (m_range : mg "range" = none) (m_max : mg "max" = none) (m_min : mg "min" = none) (m_repr : mg "repr" = none) (m_len : mg "len" = none) (c__law_pen : Cal P w K mg base "_law_pen" 1 ["script"] (sp_law_pen K)) (c__law_modulus : Cal P w K mg base "_law_modulus" 3 ["pen"] (sp_law_modulus K)) (c__law_unitriangular : Cal P w K mg base "_law_unitriangular" 3 ["pen", "q", "length_here"] (sp_law_unitriangular K)) (c__law_single : Cal P w K mg base "_law_single" 3 ["pen", "q", "length"] (sp_law_single K)) (c_invert_unitriangular : CalK P w K mg base "invert_unitriangular" 3 ["matrix", "modulus"] (sp_invert_unitriangular K) ["modulus", "matrix"] kg_invert_unitriangular) (c__law_identity : Cal P w K mg base "_law_identity" 1 ["length_here"] (sp_law_identity K)) (c__law_draw : Cal P w K mg base "_law_draw" 2 ["pen", "bound"] (sp_law_draw K)) (c__law_is_unitriangular : Cal P w K mg base "_law_is_unitriangular" 1 ["rows", "q", "length"] (sp_law_is_unitriangular K)) (c__law_product : Cal P w K mg base "_law_product" 1 ["left", "right", "q"] (sp_law_product K)) : FnG P w K mg base CX0 4 f fd ["script"] (sp_law K) := by
  obtain ⟨f__law_pen, fd__law_pen, G__law_pen, m__law_pen, k__law_pen, b__law_pen⟩ := c__law_pen.ex
  obtain ⟨f__law_modulus, fd__law_modulus, G__law_modulus, m__law_modulus, k__law_modulus, b__law_modulus⟩ := c__law_modulus.ex
  obtain ⟨f__law_unitriangular, fd__law_unitriangular, G__law_unitriangular, m__law_unitriangular, k__law_unitriangular, b__law_unitriangular⟩ := c__law_unitriangular.ex
  obtain ⟨f__law_single, fd__law_single, G__law_single, m__law_single, k__law_single, b__law_single⟩ := c__law_single.ex
  obtain ⟨f_invert_unitriangular, fd_invert_unitriangular, G_invert_unitriangular, m_invert_unitriangular, k_invert_unitriangular, b_invert_unitriangular, kb_invert_unitriangular⟩ := c_invert_unitriangular.ex
  obtain ⟨f__law_identity, fd__law_identity, G__law_identity, m__law_identity, k__law_identity, b__law_identity⟩ := c__law_identity.ex
  obtain ⟨f__law_draw, fd__law_draw, G__law_draw, m__law_draw, k__law_draw, b__law_draw⟩ := c__law_draw.ex
  obtain ⟨f__law_is_unitriangular, fd__law_is_unitriangular, G__law_is_unitriangular, m__law_is_unitriangular, k__law_is_unitriangular, b__law_is_unitriangular⟩ := c__law_is_unitriangular.ex
  obtain ⟨f__law_product, fd__law_product, G__law_product, m__law_product, k__law_product, b__law_product⟩ := c__law_product.ex
  refine okG F sc_law (fun vs H Q E h => ?_) (fun cdv A' o s H vs Q E hr h => ?_)
  · obtain ⟨a, ns, rfl, _⟩ := h
    rfl
  obtain ⟨a, ns, rfl, hS, hlen, done⟩ := h
  refine ⟨_, (pss_cons (ps_set (i := 1) sc_law.nd rfl (Or.inl rfl) (ge_call G__law_pen (hr.mono (by decide)) (by rfl) m__law_pen k__law_pen b__law_pen .nil pass0 (pa_cons (pv 0) pa_nil)))
      (pss_cons (ps_for PassesOwn.never rfl (pi_range1 rfl m_range (pa_cons (pe_callB (call_max2 rfl) (by rfl) m_max (by decide +kernel) (pa_cons pe_int (pa_cons (pe_callB (call_min2 rfl) (by rfl) m_min (by decide +kernel) (pa_cons pe_int (pa_cons (pe_callB call_len_seq (by rfl) m_len (by decide +kernel) (pa_cons (pv 0) pa_nil)) pa_nil))) pa_nil))) pa_nil)) (pg_name (i := 2) sc_law.nd rfl (Or.inl rfl)) (pss_cons (ps_par (i := 3) (j := 4) (by rfl) sc_law.nd rfl rfl (by decide) rfl rfl (pa_cons (ge_call G__law_modulus (hr.mono (by decide)) (by rfl) m__law_modulus k__law_modulus b__law_modulus .nil pass0 (pa_cons (pv 1) pa_nil)) (pa_cons (pe_op op_add pe_int (ge_call G__law_draw (hr.mono (by decide)) (by rfl) m__law_draw k__law_draw b__law_draw .nil pass0 (pa_cons (pv 1) (pa_cons pe_int pa_nil)))) pa_nil)) (by kernel_rfl) (by rfl))
      (pss_one (ps_for PassesOwn.never rfl (pi_tup (pe_tup (pa_cons (ge_call G__law_unitriangular (hr.mono (by decide)) (by rfl) m__law_unitriangular k__law_unitriangular b__law_unitriangular .nil pass0 (pa_cons (pv 1) (pa_cons (pv 3) (pa_cons (pv 4) pa_nil)))) (pa_cons (ge_call G__law_single (hr.mono (by decide)) (by rfl) m__law_single k__law_single b__law_single .nil pass0 (pa_cons (pv 1) (pa_cons (pv 3) (pa_cons (pv 4) pa_nil)))) pa_nil)))) (pg_name (i := 5) sc_law.nd rfl (Or.inl rfl)) (pss_cons (ps_set (i := 6) sc_law.nd rfl (Or.inl rfl) (pe_callB (call_reprD hr.g hr.r.units) (by rfl) m_repr (by decide +kernel) (pa_cons (pv 5) pa_nil)))
      (pss_cons (ps_set (i := 7) sc_law.nd rfl (Or.inl rfl) (ge_call G_invert_unitriangular (hr.mono (by decide)) (by rfl) m_invert_unitriangular k_invert_unitriangular b_invert_unitriangular .nil pass0 (pa_cons (pv 5) (pa_cons (pv 3) pa_nil))))
      (Evl.pss_cut (ps_if (PW.pt (pw_or (pt_not (pt_val (ge_call G__law_is_unitriangular (hr.mono (by decide)) (by rfl) m__law_is_unitriangular k__law_is_unitriangular b__law_is_unitriangular .nil pass0 (pa_cons (pv 7) (pa_cons (pv 3) (pa_cons (pv 4) pa_nil)))))) (pw_or1 (pt_cmpR op_ne (pe_callB (call_reprD hr.g hr.r.units) (by rfl) m_repr (by decide +kernel) (pa_cons (pv 5) pa_nil)) (pv 6) (nomark _))))) (pss_one (ps_ret pe_bl)) pss_nil)
      (pss_cons (ps_set (i := 8) sc_law.nd rfl (Or.inl rfl) (ge_call G__law_identity (hr.mono (by decide)) (by rfl) m__law_identity k__law_identity b__law_identity .nil pass0 (pa_cons (pv 4) pa_nil)))
      (Evl.pss_cut (ps_if (PW.pt (pw_or (pt_cmpR (op_neD hr.r.units) (ge_call G__law_product (hr.mono (by decide)) (by rfl) m__law_product k__law_product b__law_product .nil pass0 (pa_cons (pv 5) (pa_cons (pv 7) (pa_cons (pv 3) pa_nil)))) (pv 8) (nomark _)) (pw_or1 (pt_cmpR (op_neD hr.r.units) (ge_call G__law_product (hr.mono (by decide)) (by rfl) m__law_product k__law_product b__law_product .nil pass0 (pa_cons (pv 7) (pa_cons (pv 5) (pa_cons (pv 3) pa_nil)))) (pv 8) (nomark _))))) (pss_one (ps_ret pe_bl)) pss_nil)
      (pss_one (ps_if (pt_cmpR (op_neD hr.r.units) (ge_callK G_invert_unitriangular (hr.mono (by decide)) (by rfl) m_invert_unitriangular k_invert_unitriangular kb_invert_unitriangular pass0 (pk_cons (pv 3) (pk_cons (pv 5) pk_nil))) (pv 7) (nomark _)) (pss_one (ps_ret pe_bl)) pss_nil)))))))))))
      (pss_one (ps_ret pe_bl)))), ?_⟩
  refine ⟨_, rfl, a, ns, rfl, hS, fun H0 p s0 hp0 hP => ?_⟩
  have len1 : ((ns.map V.int).length : Int) ≤ 63 := by rw [List.length_map]; omega
  refine ⟨_, rfl, a, _, rfl, .inl (s0.seq hS), _, _, rfl, _, _, rfl, _, rfl, (by split <;> split <;> omega), (by split <;> split <;> omega), ?_⟩
  refine for_range (fun _ σ' H' => Dr p H0 H' ∧ ∃ x2 x3 x4 x5 x6 x7 x8, σ' = [some (.ref a), some (.ref p), x2, x3, x4, x5, x6, x7, x8]) ⟨.refl _ _, none, none, none, none, none, none, none, rfl⟩ ?_ ?_
  · rintro i σ' H' _ ⟨d0, x2, x3, x4, x5, x6, x7, x8, rfl⟩
    have P0 := d0.pen hP
    refine ⟨_, rfl, p, rfl, P0, fun H1 q d1 q0 q1 => ?_⟩
    have P1 := d1.pen P0
    refine ⟨_, rfl, p, 8, rfl, P1, by decide, by decide, fun H2 r d2 r0 r1 => ?_⟩
    have P2 := d2.pen P1
    obtain ⟨n, hn⟩ : ∃ n : Nat, 1 + r = (n : Int) := ⟨(1 + r).toNat, by omega⟩
    have hn8 : n ≤ 8 := by omega
    refine ⟨_, _, rfl, rfl, .int q, .int (n : Int), (by show [V.int q, V.int (1 + r)] = _; rw [hn]), ?_⟩
    refine ⟨_, rfl, _, rfl, _, rfl, p, q, n, rfl, P2, q0, q1, by omega, fun t1 H3 M1 d3 hM1 u1 => ?_⟩
    have P3 := d3.pen P2
    refine ⟨_, rfl, _, rfl, _, rfl, p, q, n, rfl, P3, q0, q1, by omega, fun t2 H4 M2 d4 hM2 u2 => ?_⟩
    refine ⟨(by show 2 ≤ sizeLine; decide), fun T hT => ?_⟩
    have sT := same_new hT (.tup [V.ref t1, V.ref t2])
    have hM1' := dp_same sT _ _ (dp_but P3.chg d4.but _ _ (noL_mat M1) hM1)
    have hM2' := dp_same sT _ _ hM2
    refine ⟨T, rfl, ⟨_, SqT.of upd_same⟩, for_tup (K := K) (a := T) (xs := [V.ref t1, V.ref t2]) (fun _ σ' H' => Same (upd H4 T (.tup [V.ref t1, V.ref t2])) H' ∧ ∃ x5 x6 x7 x8, σ' = [some (.ref a), some (.ref p), some (.int (0 + (i : Int))), some (.int q), some (.int (n : Int)), x5, x6, x7, x8]) ⟨Same.refl _, _, _, _, _, rfl⟩ (fun _ _ _ _ p => Same.seqT p.1 (SqT.of upd_same)) ?_ ?_⟩
    · rintro j x ρ h hx ⟨g, y5, y6, y7, y8, rfl⟩
      obtain ⟨t, M, rfl, hM0, u⟩ : ∃ (t : Addr) (M : Mx), x = .ref t ∧ Dp K (upd H4 T (.tup [V.ref t1, V.ref t2])) (.ref t) (mat M) ∧ UT q n M := by
        match j, hx with
        | 0, hx => obtain rfl := Option.some.inj hx; exact ⟨t1, M1, rfl, hM1', u1⟩
        | 1, hx => obtain rfl := Option.some.inj hx; exact ⟨t2, M2, rfl, hM2', u2⟩
      have hM := dp_same g _ _ hM0
      obtain ⟨m1, m2, m3, m4⟩ := mat_shows u.s u.r q1 (by omega)
      refine ⟨_, rfl, t, _, rfl, hM, m1, m2, m3, m4, ?_⟩
      refine ⟨_, rfl, _, rfl, _, q, n, M, rfl, hM, u, by omega, q1, by omega, fun b H6 B s6 hB hI => ?_⟩
      have hM6 := dp_same s6 _ _ hM
      refine ⟨fun σ' H' => Same H6 H' ∧ σ' = [some (.ref a), some (.ref p), some (.int (0 + (i : Int))), some (.int q), some (.int (n : Int)), some (.ref t), some (.str (mat M).shown), some (.ref b), y8], ?_, ?_⟩
      · refine ⟨_, rfl, _, rfl, _, rfl, _, q, n, B, rfl, hB, hI.u, by omega, fun H7 s7 => ?_⟩
        refine ⟨true, rfl, iteF ?_⟩
        refine ⟨_, rfl, t, _, rfl, dp_same s7 _ _ hM6, m1, m2, m3, m4, _, rfl, rfl, _, rfl, ?_⟩
        rw [show (!decide (V.str (mat M).shown = V.str (mat M).shown)) = false by rw [decide_eq_true rfl]; rfl]
        exact iteF ⟨s7, rfl⟩
      rintro _ H7 ⟨s7, rfl⟩
      have hM7 := dp_same s7 _ _ hM6
      have hB7 := dp_same s7 _ _ hB
      refine ⟨_, rfl, n, rfl, by omega, fun z H8 s8 hz => ?_⟩
      have hM8 := dp_same s8 _ _ hM7
      have hB8 := dp_same s8 _ _ hB7
      have bM : ∀ i j, i < n → j < n → -1000 ≤ ent M i j ∧ ent M i j ≤ 1000 := fun i j hi hj => by have := u.r i j hi hj; omega
      have bB : ∀ i j, i < n → j < n → -1000 ≤ ent B i j ∧ ent B i j ≤ 1000 := fun i j hi hj => by have := hI.u.r i j hi hj; omega
      have pr1 : prod q n (ent M) (ent B) = fnMx n dl := prod_one (by omega) hI.r
      have pr2 : prod q n (ent B) (ent M) = fnMx n dl := prod_one (by omega) hI.left
      refine ⟨fun σ' H' => Same H8 H' ∧ σ' = [some (.ref a), some (.ref p), some (.int (0 + (i : Int))), some (.int q), some (.int (n : Int)), some (.ref t), some (.str (mat M).shown), some (.ref b), some (.ref z)], ?_, ?_⟩
      · refine ⟨_, rfl, _, rfl, _, rfl, _, _, q, n, M, B, rfl, hM8, hB8, u.s, hI.u.s, bM, by omega, by omega, fun c1 H9 s9 hc1 => ?_⟩
        rw [pr1] at hc1
        refine ⟨_, rfl, _, _, hc1, dp_same s9 _ _ hz, shaped_mat _, shaped_mat _, _, rfl, ne_same (shaped_mat _) ?_⟩
        refine ⟨_, rfl, _, rfl, _, rfl, _, _, q, n, B, M, rfl, dp_same s9 _ _ hB8, dp_same s9 _ _ hM8, hI.u.s, u.s, bB, by omega, by omega, fun c2 H10 s10 hc2 => ?_⟩
        rw [pr2] at hc2
        exact ⟨_, rfl, _, _, hc2, dp_same (s9.trans s10) _ _ hz, shaped_mat _, shaped_mat _, _, rfl, ne_same (shaped_mat _) ⟨s9.trans s10, rfl⟩⟩
      rintro _ H9 ⟨s9, rfl⟩
      refine ⟨_, rfl, _, rfl, _, q, n, M, rfl, dp_same s9 _ _ hM8, u, by omega, q1, by omega, fun b2 H10 B2 s10 hB2 hI2 => ?_⟩
      obtain rfl := hI.unique hI2
      exact ⟨_, rfl, _, _, hB2, dp_same (s9.trans s10) _ _ hB8, shaped_mat _, shaped_mat _, _, rfl, ne_same (shaped_mat _) ⟨g.trans (s6.trans (s7.trans (s8.trans (s9.trans s10)))), _, _, _, _, rfl⟩⟩
    · rintro ρ h ⟨g, y5, y6, y7, y8, rfl⟩
      exact ⟨d0.trans (d1.trans (d2.trans (d3.trans (d4.trans (.same (sT.trans g)))))), _, _, _, _, _, _, _, rfl⟩
  · rintro ρ h ⟨_, x2, x3, x4, x5, x6, x7, x8, rfl⟩
    exact done h

end
end Vk03

namespace Vk03
open PySem PySem.Spec PyProof.Rows L2 Vx
theorem kb_invert_unitriangular {K : PySem.W.Frag} {f : Addr} {fd : FuncData} (F : Fun K "invert_unitriangular" "invert_unitriangular" s_invert_unitriangular f fd) : KBinds K fd ["matrix", "modulus"] ["modulus", "matrix"] kg_invert_unitriangular kg_invert_unitriangular := by
  obtain ⟨oc, od, kV, doc, pm, an, cdv, ct, osl, rfl, lk, hcd⟩ := F.ex
  constructor
  · intro s us ws _ hl
    rcases us with _ | ⟨u, us⟩
    · rcases ws with _ | ⟨u0, _ | ⟨u1, _ | ⟨u2, _⟩⟩⟩ <;> first | exact .of_eq rfl | cases hl
    · cases hl
  · intro vs us zs ws r rz
    rcases r with _ | ⟨r, rs⟩
    · rcases rz with _ | ⟨r0, _ | ⟨r1, _ | ⟨r2, _⟩⟩⟩ <;> first | exact .cons r1 (.cons r0 (.nil)) | exact .nil
    · exact .nil
theorem all_mk {l : PySem.W.OpenLaw} {w : World} {K : PySem.W.Frag} {h : Heap} {mg : Str → Option Value} {fa f0 f1 f2 f3 f4 f5 f6 f7 f8 f9 f10 f11 f12 f13 : Addr} (X : K.In h) (G : h.Ns mainGlobals mg) (hfa : mg "law" = some (.ref fa))
    {od0 an0 od1 an1 od2 an2 od3 an3 od4 an4 od5 an5 od6 an6 od7 an7 od8 an8 od9 an9 od10 an10 od11 an11 od12 an12 od13 an13 : Option Addr} {sl0 sl1 sl2 sl3 sl4 sl5 sl6 sl7 sl8 sl9 sl10 sl11 sl12 sl13 : Array (Option Value)} {oc0 kV0 dc0 pm0 cd0 ct0 oc1 kV1 dc1 pm1 cd1 ct1 oc2 kV2 dc2 pm2 cd2 ct2 oc3 kV3 dc3 pm3 cd3 ct3 oc4 kV4 dc4 pm4 cd4 ct4 oc5 kV5 dc5 pm5 cd5 ct5 oc6 kV6 dc6 pm6 cd6 ct6 oc7 kV7 dc7 pm7 cd7 ct7 oc8 kV8 dc8 pm8 cd8 ct8 oc9 kV9 dc9 pm9 cd9 ct9 oc10 kV10 dc10 pm10 cd10 ct10 oc11 kV11 dc11 pm11 cd11 ct11 oc12 kV12 dc12 pm12 cd12 ct12 oc13 kV13 dc13 pm13 cd13 ct13 : Value}
    (a0 : PySem.W.nsIn K mainGlobals "identity_matrix" = some (some (.ref f0))) (l0 : K.lookup f0 = some ⟨oc0, od0, .func (PySem.W.fnOf "identity_matrix" "identity_matrix" (defArgs s_identity_matrix) (defBody s_identity_matrix) (defScope s_identity_matrix) .none kV0 dc0 pm0 an0 cd0 ct0), sl0⟩) (c0 : PySem.W.codeIn K cd0 "identity_matrix" = true) (k0 : PySem.W.keepIn K (.ref f0) = true)
    (a1 : PySem.W.nsIn K mainGlobals "_unit_row" = some (some (.ref f1))) (l1 : K.lookup f1 = some ⟨oc1, od1, .func (PySem.W.fnOf "_unit_row" "_unit_row" (defArgs s_unit_row) (defBody s_unit_row) (defScope s_unit_row) .none kV1 dc1 pm1 an1 cd1 ct1), sl1⟩) (c1 : PySem.W.codeIn K cd1 "_unit_row" = true) (k1 : PySem.W.keepIn K (.ref f1) = true)
    (a2 : PySem.W.nsIn K mainGlobals "invert_unitriangular" = some (some (.ref f2))) (l2 : K.lookup f2 = some ⟨oc2, od2, .func (PySem.W.fnOf "invert_unitriangular" "invert_unitriangular" (defArgs s_invert_unitriangular) (defBody s_invert_unitriangular) (defScope s_invert_unitriangular) .none kV2 dc2 pm2 an2 cd2 ct2), sl2⟩) (c2 : PySem.W.codeIn K cd2 "invert_unitriangular" = true) (k2 : PySem.W.keepIn K (.ref f2) = true)
    (a3 : PySem.W.nsIn K mainGlobals "_inverse_row" = some (some (.ref f3))) (l3 : K.lookup f3 = some ⟨oc3, od3, .func (PySem.W.fnOf "_inverse_row" "_inverse_row" (defArgs s_inverse_row) (defBody s_inverse_row) (defScope s_inverse_row) .none kV3 dc3 pm3 an3 cd3 ct3), sl3⟩) (c3 : PySem.W.codeIn K cd3 "_inverse_row" = true) (k3 : PySem.W.keepIn K (.ref f3) = true)
    (a4 : PySem.W.nsIn K mainGlobals "_law_pen" = some (some (.ref f4))) (l4 : K.lookup f4 = some ⟨oc4, od4, .func (PySem.W.fnOf "_law_pen" "_law_pen" (defArgs s_law_pen) (defBody s_law_pen) (defScope s_law_pen) .none kV4 dc4 pm4 an4 cd4 ct4), sl4⟩) (c4 : PySem.W.codeIn K cd4 "_law_pen" = true) (k4 : PySem.W.keepIn K (.ref f4) = true)
    (a5 : PySem.W.nsIn K mainGlobals "_law_fresh" = some (some (.ref f5))) (l5 : K.lookup f5 = some ⟨oc5, od5, .func (PySem.W.fnOf "_law_fresh" "_law_fresh" (defArgs s_law_fresh) (defBody s_law_fresh) (defScope s_law_fresh) .none kV5 dc5 pm5 an5 cd5 ct5), sl5⟩) (c5 : PySem.W.codeIn K cd5 "_law_fresh" = true) (k5 : PySem.W.keepIn K (.ref f5) = true)
    (a6 : PySem.W.nsIn K mainGlobals "_law_draw" = some (some (.ref f6))) (l6 : K.lookup f6 = some ⟨oc6, od6, .func (PySem.W.fnOf "_law_draw" "_law_draw" (defArgs s_law_draw) (defBody s_law_draw) (defScope s_law_draw) .none kV6 dc6 pm6 an6 cd6 ct6), sl6⟩) (c6 : PySem.W.codeIn K cd6 "_law_draw" = true) (k6 : PySem.W.keepIn K (.ref f6) = true)
    (a7 : PySem.W.nsIn K mainGlobals "_law_modulus" = some (some (.ref f7))) (l7 : K.lookup f7 = some ⟨oc7, od7, .func (PySem.W.fnOf "_law_modulus" "_law_modulus" (defArgs s_law_modulus) (defBody s_law_modulus) (defScope s_law_modulus) .none kV7 dc7 pm7 an7 cd7 ct7), sl7⟩) (c7 : PySem.W.codeIn K cd7 "_law_modulus" = true) (k7 : PySem.W.keepIn K (.ref f7) = true)
    (a8 : PySem.W.nsIn K mainGlobals "_law_unitriangular" = some (some (.ref f8))) (l8 : K.lookup f8 = some ⟨oc8, od8, .func (PySem.W.fnOf "_law_unitriangular" "_law_unitriangular" (defArgs s_law_unitriangular) (defBody s_law_unitriangular) (defScope s_law_unitriangular) .none kV8 dc8 pm8 an8 cd8 ct8), sl8⟩) (c8 : PySem.W.codeIn K cd8 "_law_unitriangular" = true) (k8 : PySem.W.keepIn K (.ref f8) = true)
    (a9 : PySem.W.nsIn K mainGlobals "_law_product" = some (some (.ref f9))) (l9 : K.lookup f9 = some ⟨oc9, od9, .func (PySem.W.fnOf "_law_product" "_law_product" (defArgs s_law_product) (defBody s_law_product) (defScope s_law_product) .none kV9 dc9 pm9 an9 cd9 ct9), sl9⟩) (c9 : PySem.W.codeIn K cd9 "_law_product" = true) (k9 : PySem.W.keepIn K (.ref f9) = true)
    (a10 : PySem.W.nsIn K mainGlobals "_law_identity" = some (some (.ref f10))) (l10 : K.lookup f10 = some ⟨oc10, od10, .func (PySem.W.fnOf "_law_identity" "_law_identity" (defArgs s_law_identity) (defBody s_law_identity) (defScope s_law_identity) .none kV10 dc10 pm10 an10 cd10 ct10), sl10⟩) (c10 : PySem.W.codeIn K cd10 "_law_identity" = true) (k10 : PySem.W.keepIn K (.ref f10) = true)
    (a11 : PySem.W.nsIn K mainGlobals "_law_is_unitriangular" = some (some (.ref f11))) (l11 : K.lookup f11 = some ⟨oc11, od11, .func (PySem.W.fnOf "_law_is_unitriangular" "_law_is_unitriangular" (defArgs s_law_is_unitriangular) (defBody s_law_is_unitriangular) (defScope s_law_is_unitriangular) .none kV11 dc11 pm11 an11 cd11 ct11), sl11⟩) (c11 : PySem.W.codeIn K cd11 "_law_is_unitriangular" = true) (k11 : PySem.W.keepIn K (.ref f11) = true)
    (a12 : PySem.W.nsIn K mainGlobals "_law_single" = some (some (.ref f12))) (l12 : K.lookup f12 = some ⟨oc12, od12, .func (PySem.W.fnOf "_law_single" "_law_single" (defArgs s_law_single) (defBody s_law_single) (defScope s_law_single) .none kV12 dc12 pm12 an12 cd12 ct12), sl12⟩) (c12 : PySem.W.codeIn K cd12 "_law_single" = true) (k12 : PySem.W.keepIn K (.ref f12) = true)
    (a13 : PySem.W.nsIn K mainGlobals "law" = some (some (.ref f13))) (l13 : K.lookup f13 = some ⟨oc13, od13, .func (PySem.W.fnOf "law" "law" (defArgs s_law) (defBody s_law) (defScope s_law) .none kV13 dc13 pm13 an13 cd13 ct13), sl13⟩) (c13 : PySem.W.codeIn K cd13 "law" = true) (k13 : PySem.W.keepIn K (.ref f13) = true)
    (z0 : PySem.W.nsIn K mainGlobals "tuple" = some none)
    (z1 : PySem.W.nsIn K mainGlobals "range" = some none)
    (z2 : PySem.W.nsIn K mainGlobals "len" = some none)
    (z3 : PySem.W.nsIn K mainGlobals "list" = some none)
    (z4 : PySem.W.nsIn K mainGlobals "reversed" = some none)
    (z5 : PySem.W.nsIn K mainGlobals "enumerate" = some none)
    (z6 : PySem.W.nsIn K mainGlobals "isinstance" = some none)
    (z7 : PySem.W.nsIn K mainGlobals "bool" = some none)
    (z8 : PySem.W.nsIn K mainGlobals "int" = some none)
    (z9 : PySem.W.nsIn K mainGlobals "max" = some none)
    (z10 : PySem.W.nsIn K mainGlobals "min" = some none)
    (z11 : PySem.W.nsIn K mainGlobals "repr" = some none) :
    ∃ fd : FuncData, (∀ (s : Shared) (v : Value), BindsTo s fd ⟨[v], []⟩ [("script", v)]) ∧ ∀ base : Heap, K.In base → base.Ns mainGlobals mg → FnG l.prog w K mg base CX0 4 fa fd ["script"] (sp_law K) := by
  have e := hfa.symm.trans (PySem.W.mg_of X G a13)
  cases e
  have m_tuple := PySem.W.mg_none_of X G z0
  have m_range := PySem.W.mg_none_of X G z1
  have m_len := PySem.W.mg_none_of X G z2
  have m_list := PySem.W.mg_none_of X G z3
  have m_reversed := PySem.W.mg_none_of X G z4
  have m_enumerate := PySem.W.mg_none_of X G z5
  have m_isinstance := PySem.W.mg_none_of X G z6
  have m_bool := PySem.W.mg_none_of X G z7
  have m_int := PySem.W.mg_none_of X G z8
  have m_max := PySem.W.mg_none_of X G z9
  have m_min := PySem.W.mg_none_of X G z10
  have m_repr := PySem.W.mg_none_of X G z11
  have F0 := fun_mk (st := s_identity_matrix) l0 c0 k0
  have b0 := F0.binds (ps := ["size"]) fun _ _ _ _ _ _ us hl => match us, hl with | [_], _ => rfl
  have F1 := fun_mk (st := s_unit_row) l1 c1 k1
  have b1 := F1.binds (ps := ["index", "size"]) fun _ _ _ _ _ _ us hl => match us, hl with | [_, _], _ => rfl
  have F2 := fun_mk (st := s_invert_unitriangular) l2 c2 k2
  have b2 := F2.binds (ps := ["matrix", "modulus"]) fun _ _ _ _ _ _ us hl => match us, hl with | [_, _], _ => rfl
  have F3 := fun_mk (st := s_inverse_row) l3 c3 k3
  have b3 := F3.binds (ps := ["row", "index", "inverse", "modulus"]) fun _ _ _ _ _ _ us hl => match us, hl with | [_, _, _, _], _ => rfl
  have F4 := fun_mk (st := s_law_pen) l4 c4 k4
  have b4 := F4.binds (ps := ["script"]) fun _ _ _ _ _ _ us hl => match us, hl with | [_], _ => rfl
  have F5 := fun_mk (st := s_law_fresh) l5 c5 k5
  have b5 := F5.binds (ps := ["pen"]) fun _ _ _ _ _ _ us hl => match us, hl with | [_], _ => rfl
  have F6 := fun_mk (st := s_law_draw) l6 c6 k6
  have b6 := F6.binds (ps := ["pen", "bound"]) fun _ _ _ _ _ _ us hl => match us, hl with | [_, _], _ => rfl
  have F7 := fun_mk (st := s_law_modulus) l7 c7 k7
  have b7 := F7.binds (ps := ["pen"]) fun _ _ _ _ _ _ us hl => match us, hl with | [_], _ => rfl
  have F8 := fun_mk (st := s_law_unitriangular) l8 c8 k8
  have b8 := F8.binds (ps := ["pen", "q", "length_here"]) fun _ _ _ _ _ _ us hl => match us, hl with | [_, _, _], _ => rfl
  have F9 := fun_mk (st := s_law_product) l9 c9 k9
  have b9 := F9.binds (ps := ["left", "right", "q"]) fun _ _ _ _ _ _ us hl => match us, hl with | [_, _, _], _ => rfl
  have F10 := fun_mk (st := s_law_identity) l10 c10 k10
  have b10 := F10.binds (ps := ["length_here"]) fun _ _ _ _ _ _ us hl => match us, hl with | [_], _ => rfl
  have F11 := fun_mk (st := s_law_is_unitriangular) l11 c11 k11
  have b11 := F11.binds (ps := ["rows", "q", "length"]) fun _ _ _ _ _ _ us hl => match us, hl with | [_, _, _], _ => rfl
  have F12 := fun_mk (st := s_law_single) l12 c12 k12
  have b12 := F12.binds (ps := ["pen", "q", "length"]) fun _ _ _ _ _ _ us hl => match us, hl with | [_, _, _], _ => rfl
  have F13 := fun_mk (st := s_law) l13 c13 k13
  refine ⟨PySem.W.fnOf "law" "law" (defArgs s_law) (defBody s_law) (defScope s_law) .none kV13 dc13 pm13 an13 cd13 ct13, fun s v => .of_eq rfl, fun base KB NB => ?_⟩
  have G_unit_row : FnG l.prog w K mg base CX0 1 f1 _ ["index", "size"] (sp_unit_row K) := ok_unit_row F1 m_tuple m_range
  have c__unit_row : Cal l.prog w K mg base "_unit_row" 1 ["index", "size"] (sp_unit_row K) := ⟨f1, _, G_unit_row, PySem.W.mg_of X G a1, k1, b1⟩
  have G_identity_matrix : FnG l.prog w K mg base CX0 2 f0 _ ["size"] (sp_identity_matrix K) := ok_identity_matrix F0 m_tuple m_range c__unit_row
  have c_identity_matrix : Cal l.prog w K mg base "identity_matrix" 2 ["size"] (sp_identity_matrix K) := ⟨f0, _, G_identity_matrix, PySem.W.mg_of X G a0, k0, b0⟩
  have G_inverse_row : FnG l.prog w K mg base CX0 2 f3 _ ["row", "index", "inverse", "modulus"] (sp_inverse_row K) := ok_inverse_row F3 m_list m_range m_tuple m_len c__unit_row
  have c__inverse_row : Cal l.prog w K mg base "_inverse_row" 2 ["row", "index", "inverse", "modulus"] (sp_inverse_row K) := ⟨f3, _, G_inverse_row, PySem.W.mg_of X G a3, k3, b3⟩
  have G_invert_unitriangular : FnG l.prog w K mg base CX0 3 f2 _ ["matrix", "modulus"] (sp_invert_unitriangular K) := ok_invert_unitriangular F2 m_len m_list m_reversed m_tuple m_range c_identity_matrix c__inverse_row
  have c_invert_unitriangular : Cal l.prog w K mg base "invert_unitriangular" 3 ["matrix", "modulus"] (sp_invert_unitriangular K) := ⟨f2, _, G_invert_unitriangular, PySem.W.mg_of X G a2, k2, b2⟩
  have ck_invert_unitriangular : CalK l.prog w K mg base "invert_unitriangular" 3 ["matrix", "modulus"] (sp_invert_unitriangular K) ["modulus", "matrix"] kg_invert_unitriangular := ⟨f2, _, G_invert_unitriangular, PySem.W.mg_of X G a2, k2, b2, kb_invert_unitriangular F2⟩
  have G_law_pen : FnG l.prog w K mg base CX0 1 f4 _ ["script"] (sp_law_pen K) := ok_law_pen F4 m_list
  have c__law_pen : Cal l.prog w K mg base "_law_pen" 1 ["script"] (sp_law_pen K) := ⟨f4, _, G_law_pen, PySem.W.mg_of X G a4, k4, b4⟩
  have G_law_fresh : FnG l.prog w K mg base CX0 1 f5 _ ["pen"] (sp_law_fresh K) := ok_law_fresh F5 m_range m_len
  have c__law_fresh : Cal l.prog w K mg base "_law_fresh" 1 ["pen"] (sp_law_fresh K) := ⟨f5, _, G_law_fresh, PySem.W.mg_of X G a5, k5, b5⟩
  have G_law_draw : FnG l.prog w K mg base CX0 2 f6 _ ["pen", "bound"] (sp_law_draw K) := ok_law_draw F6 c__law_fresh
  have c__law_draw : Cal l.prog w K mg base "_law_draw" 2 ["pen", "bound"] (sp_law_draw K) := ⟨f6, _, G_law_draw, PySem.W.mg_of X G a6, k6, b6⟩
  have G_law_modulus : FnG l.prog w K mg base CX0 3 f7 _ ["pen"] (sp_law_modulus K) := ok_law_modulus F7 c__law_draw
  have c__law_modulus : Cal l.prog w K mg base "_law_modulus" 3 ["pen"] (sp_law_modulus K) := ⟨f7, _, G_law_modulus, PySem.W.mg_of X G a7, k7, b7⟩
  have G_law_unitriangular : FnG l.prog w K mg base CX0 3 f8 _ ["pen", "q", "length_here"] (sp_law_unitriangular K) := ok_law_unitriangular F8 m_range m_tuple c__law_draw
  have c__law_unitriangular : Cal l.prog w K mg base "_law_unitriangular" 3 ["pen", "q", "length_here"] (sp_law_unitriangular K) := ⟨f8, _, G_law_unitriangular, PySem.W.mg_of X G a8, k8, b8⟩
  have G_law_product : FnG l.prog w K mg base CX0 1 f9 _ ["left", "right", "q"] (sp_law_product K) := ok_law_product F9 m_len m_range m_tuple
  have c__law_product : Cal l.prog w K mg base "_law_product" 1 ["left", "right", "q"] (sp_law_product K) := ⟨f9, _, G_law_product, PySem.W.mg_of X G a9, k9, b9⟩
  have G_law_identity : FnG l.prog w K mg base CX0 1 f10 _ ["length_here"] (sp_law_identity K) := ok_law_identity F10 m_tuple m_range
  have c__law_identity : Cal l.prog w K mg base "_law_identity" 1 ["length_here"] (sp_law_identity K) := ⟨f10, _, G_law_identity, PySem.W.mg_of X G a10, k10, b10⟩
  have G_law_is_unitriangular : FnG l.prog w K mg base CX0 1 f11 _ ["rows", "q", "length"] (sp_law_is_unitriangular K) := ok_law_is_unitriangular F11 m_enumerate m_isinstance m_tuple m_len m_bool m_int
  have c__law_is_unitriangular : Cal l.prog w K mg base "_law_is_unitriangular" 1 ["rows", "q", "length"] (sp_law_is_unitriangular K) := ⟨f11, _, G_law_is_unitriangular, PySem.W.mg_of X G a11, k11, b11⟩
  have G_law_single : FnG l.prog w K mg base CX0 3 f12 _ ["pen", "q", "length"] (sp_law_single K) := ok_law_single F12 m_tuple m_list c__law_draw c__law_identity
  have c__law_single : Cal l.prog w K mg base "_law_single" 3 ["pen", "q", "length"] (sp_law_single K) := ⟨f12, _, G_law_single, PySem.W.mg_of X G a12, k12, b12⟩
  exact ok_law F13 m_range m_max m_min m_repr m_len c__law_pen c__law_modulus c__law_unitriangular c__law_single ck_invert_unitriangular c__law_identity c__law_draw c__law_is_unitriangular c__law_product
theorem walk_end {l : PySem.W.OpenLaw} {q : Program} {loose : List Str} {XP : (Str → Option Value) → Heap → Prop} {YP : World → Heap → Prop} {d : DefRec} {K : Params → PySem.W.Frag} (hn : l.most = some 63) (hdf : d.params.defaults = []) (hY : ∀ (w : World) (h : Heap), YP w h → (K w.params).In h)
    (F : ∀ (w : World) (mg : Str → Option Value) (fa : Addr) (h : Heap), (K w.params).In h → h.Ns mainGlobals mg → mg d.name = some (.ref fa) →
      ∃ fd : FuncData, (∀ (s : Shared) (u : Value), BindsTo s fd ⟨[u], []⟩ [("script", u)]) ∧ ∀ base : Heap, (K w.params).In base → base.Ns mainGlobals mg → FnG l.prog w (K w.params) mg base CX0 4 fa fd ["script"] (sp_law (K w.params))) :
    PySem.W.WalkO q loose XP YP l.row.toRowW d [] (fun f vs => PySem.call f vs) :=
  walkG (n := 63) (k := 4) (x := "script") (sp := fun w => sp_law (K w.params)) hn (by decide) hdf ⟨rfl, by decide, by decide⟩ hY F fun _ _ a ns hl _ hS => ⟨a, ns, rfl, hS, hl, fun _ => rfl⟩

end Vk03

open PySem PySem.W PyProof.Rows in
set_option maxRecDepth 100000 in
set_option maxHeartbeats 0 in
theorem PySem.Challenge.cw_maskedlist_k03_inverses_holds : PySem.Challenge.rw_maskedlist_k03_inverses.Holds := by
  w_on; o_law; k_head; (case hw => w_witness2)
  k_fill
  refine Vk03.walk_end (l := PySem.Challenge.rw_maskedlist_k03_inverses) rfl rfl (fun w h Y => PySem.W.kIn_of Y) ?F
  case F =>
    intro w mg fa h KX G hmg
    refine' Vk03.all_mk KX G hmg ?a0 ?l0 ?c0 ?k0 ?a1 ?l1 ?c1 ?k1 ?a2 ?l2 ?c2 ?k2 ?a3 ?l3 ?c3 ?k3 ?a4 ?l4 ?c4 ?k4 ?a5 ?l5 ?c5 ?k5 ?a6 ?l6 ?c6 ?k6 ?a7 ?l7 ?c7 ?k7 ?a8 ?l8 ?c8 ?k8 ?a9 ?l9 ?c9 ?k9 ?a10 ?l10 ?c10 ?k10 ?a11 ?l11 ?c11 ?k11 ?a12 ?l12 ?c12 ?k12 ?a13 ?l13 ?c13 ?k13 ?z0 ?z1 ?z2 ?z3 ?z4 ?z5 ?z6 ?z7 ?z8 ?z9 ?z10 ?z11
    (case a0 => k_is)
    (case l0 => k_is)
    (case c0 => k_is)
    (case k0 => k_is)
    (case a1 => k_is)
    (case l1 => k_is)
    (case c1 => k_is)
    (case k1 => k_is)
    (case a2 => k_is)
    (case l2 => k_is)
    (case c2 => k_is)
    (case k2 => k_is)
    (case a3 => k_is)
    (case l3 => k_is)
    (case c3 => k_is)
    (case k3 => k_is)
    (case a4 => k_is)
    (case l4 => k_is)
    (case c4 => k_is)
    (case k4 => k_is)
    (case a5 => k_is)
    (case l5 => k_is)
    (case c5 => k_is)
    (case k5 => k_is)
    (case a6 => k_is)
    (case l6 => k_is)
    (case c6 => k_is)
    (case k6 => k_is)
    (case a7 => k_is)
    (case l7 => k_is)
    (case c7 => k_is)
    (case k7 => k_is)
    (case a8 => k_is)
    (case l8 => k_is)
    (case c8 => k_is)
    (case k8 => k_is)
    (case a9 => k_is)
    (case l9 => k_is)
    (case c9 => k_is)
    (case k9 => k_is)
    (case a10 => k_is)
    (case l10 => k_is)
    (case c10 => k_is)
    (case k10 => k_is)
    (case a11 => k_is)
    (case l11 => k_is)
    (case c11 => k_is)
    (case k11 => k_is)
    (case a12 => k_is)
    (case l12 => k_is)
    (case c12 => k_is)
    (case k12 => k_is)
    (case a13 => k_is)
    (case l13 => k_is)
    (case c13 => k_is)
    (case k13 => k_is)
    (case z0 => k_is)
    (case z1 => k_is)
    (case z2 => k_is)
    (case z3 => k_is)
    (case z4 => k_is)
    (case z5 => k_is)
    (case z6 => k_is)
    (case z7 => k_is)
    (case z8 => k_is)
    (case z9 => k_is)
    (case z10 => k_is)
    (case z11 => k_is)

