import PyProof.Rows.All
import Wide.All
import OpenK.AllK
import Wide.FinOn
import HandS.ForMost
import HandS.Walk
import HandS.Wide
import HandS.Style
import HandS.More
import HandS.SetFor
import HandS.SortInts
import HandS.IsInst
import HandS.Codes
import PyProof.ReprRoads
import HandS.Defaults
import HandS.Dict
import KE.KExcSuper
import HandS.Exc
import HandS.FStr
import PyProof.FString2
import HandS.TryOnly
import HandS.TupAny
import PySem.Challenge.RW_holdtap_k05_records_recognized
set_option Elab.async false
set_option linter.all false
set_option maxRecDepth 100000
set_option maxHeartbeats 4000000
/-! A layer over the hand layer in which a def knows that no display is being shown (A.guards): repr needs it. -/
namespace Gd
open PySem PySem.Spec PyProof.Rows L2

/-- what a def promises where no guard stands -/
structure FnG (P : Program) (w : World) (K : PySem.W.Frag) (mg : Str → Option Value) (base : Heap)
    (k : Nat) (f : Addr) (fd : FuncData) (ps : List Str) (sp : Sp) : Prop where
  len : ∀ vs H Q E, sp vs H Q E → vs.length = ps.length
  go : ∀ (A : Around) (outer : List Env) (s : Shared) (H : Hp) (args : Args) (us : List Value) (vs : List V) (Q : VK),
    A.guards = some [] → Room k A → Env0 P w K mg base A outer s H → BindsTo s fd args (ps.zip us) →
    Vals vs us → sp vs H Q E0 →
    codeAny (model P w) A (.call (.ref f) args) (CR CX0 outer P w H s Q E0) s

theorem deep_guards {A : Around} {e : Env} (h : A.guards = some []) : (A.deeper e).guards = some [] := h

section
variable {P : Program} {w : World} {K : PySem.W.Frag} {mg : Str → Option Value} {base : Heap}
theorem fnG {x qual : Str} {st : Stmt} {f : Addr} {fd : FuncData} {N ps : List Str} {k : Nat} {sp : Sp}
    (F : Fun K x qual st f fd) (S : FnScope N ps (defScope st))
    (len : ∀ vs H Q E, sp vs H Q E → vs.length = ps.length)
    (hb : ∀ (cdv : Value) (A : Around) (outer : List Env) (s : Shared) (H : Hp) (vs : List V) (Q : VK),
      A.guards = some [] → Room k (A.deeper (envOfC qual (defScope st) s.heap.objs.size f cdv)) → sp vs H Q E0 →
      ∃ t, PSs (cxOf CX0 P w K mg base N qual (defScope st) f cdv A outer s H E0).nox (defBody st) t ∧
        t { nx := fun _ H' => Q .non H', rt := Q } (start N vs) H) :
    FnG P w K mg base (k + 1) f fd ps sp := by
  obtain ⟨oc, od, kV, doc, pm, an, cdv, ct, osl, rfl, lk, hcd⟩ := F.ex
  refine ⟨len, fun A outer s H args us vs Q hg hr e0 bt rv hsp => ?_⟩
  have kin : K.In s.heap := e0.mod.kin.keeps (fun b o e => (e0.bs b o e).1)
  have nol : s.heap.NoLimit := e0.mod.nolimit.keeps (fun b o e => (e0.bs b o e).1)
  have pk : ((ps.zip us).all fun y => (defScope st).names.lookup y.1 == some NameKind.local ||
      (defScope st).names.lookup y.1 == some NameKind.cell) = true := by
    rw [List.all_eq_true]
    rintro ⟨n, v⟩ hm
    have hp := S.par n (List.of_mem_zip hm).1
    rcases hp with e | e <;> simp [e]
  refine Att.call_fn kin nol lk hcd hr.depth bt pk (fun s1 ic => ?_) S.co S.gen S.kind
  obtain ⟨t, ht, hq⟩ := hb cdv A outer s H vs Q hg (hr.deeper _) hsp
  have J := inv_start (CX := CX0) (E := E0) (P := P) (w := w) (mg := mg) (base := base) S hr.hd e0 (len _ _ _ _ hsp) rv ic
  have J' := J.wish (fun _ _ => False)
  refine wpAny_mono (ht.run [] s1 (start N vs) H _ J' hq) (fun fl s' sp' => ?_) (fun _ _ z => z.elim)
  match fl, sp' with
  | .next, ⟨σ', H', L, q⟩ => exact ⟨.non, H', L.os, L.bare, L.base, L.hok, rfl, q⟩
  | .ret u, ⟨v, σ', H', L, rr, q⟩ => exact ⟨v, H', L.os, L.bare, L.base, L.hok, rr, q⟩
  | .brk, ⟨_, _, _, q⟩ => exact False.elim q
  | .cont, ⟨_, _, _, q⟩ => exact False.elim q
end

/-- a def that may be called by its name -/
structure Cl (P : Program) (w : World) (K : PySem.W.Frag) (mg : Str → Option Value) (base : Heap) (k : Nat) (x : Str) (sp : Sp) : Prop where
  ex : ∃ (f : Addr) (fd : FuncData) (ps : List Str), FnG P w K mg base k f fd ps sp ∧ mg x = some (.ref f) ∧
    PySem.W.keepIn K (.ref f) = true ∧ Binds K fd ps []
/-- where a def stands: its text, its name in the module -/
structure At (K : PySem.W.Frag) (mg : Str → Option Value) (x : Str) (st : Stmt) (ps : List Str) : Prop where
  ex : ∃ (f : Addr) (fd : FuncData), Fun K x x st f fd ∧ mg x = some (.ref f) ∧ Binds K fd ps []
section
variable {P : Program} {w : World} {K : PySem.W.Frag} {mg : Str → Option Value} {base : Heap}
theorem clG {x : Str} {st : Stmt} {N ps : List Str} {k : Nat} {sp : Sp} (a : At K mg x st ps) (S : FnScope N ps (defScope st))
    (len : ∀ vs H Q E, sp vs H Q E → vs.length = ps.length)
    (hb : ∀ (f : Addr) (cdv : Value) (A : Around) (outer : List Env) (s : Shared) (H : Hp) (vs : List V) (Q : VK),
      A.guards = some [] → Room k (A.deeper (envOfC x (defScope st) s.heap.objs.size f cdv)) → sp vs H Q E0 →
      ∃ t, PSs (cxOf CX0 P w K mg base N x (defScope st) f cdv A outer s H E0).nox (defBody st) t ∧
        t { nx := fun _ H' => Q .non H', rt := Q } (start N vs) H) : Cl P w K mg base (k + 1) x sp := by
  obtain ⟨f, fd, F, hm, b⟩ := a.ex
  exact ⟨f, fd, ps, fnG F S len (hb f), hm, F.kp, b⟩
theorem Cl.imp {x : Str} {k : Nat} {sp sp' : Sp} (c : Cl P w K mg base k x sp) (h : ∀ vs H Q E, sp' vs H Q E → sp vs H Q E) :
    Cl P w K mg base k x sp' := by
  obtain ⟨f, fd, ps, F, hm, kp, b⟩ := c.ex
  exact ⟨f, fd, ps, ⟨fun vs H Q E z => F.len vs H Q E (h _ _ _ _ z), fun A o s H as us vs Q g r e bt rv z => F.go A o s H as us vs Q g r e bt rv (h _ _ _ _ z)⟩, hm, kp, b⟩
end
section
variable {X : Cx} {k j : Nat} {x : Str} {sp : Sp} {p pos : Pos} {e : Expr} {es : List Expr} {t : TA}
theorem run_cl {f : Addr} {fd : FuncData} {ps : List Str} {pins : List (Addr × Obj)} {σ : L2.St} {H : Hp} {s : Shared} {Q : VK} {us : List Value} {vs : List V}
    (F : FnG X.prog X.w X.K X.mg X.base k f fd ps sp) (hg : X.A.guards = some []) (hr : Room k X.A) (b : Binds X.K fd ps [])
    (I : Inv X pins σ H s) (rv : Vals vs us) (h : sp vs H Q E0) : wpAny (model X.prog X.w) X.A (call (.ref f) us) (EP X pins σ Q) X.xe s := by
  have hl : us.length = ps.length := rv.length.symm.trans (F.len _ _ _ _ h)
  have bt := b s us I.kIn (by simpa using hl)
  rw [List.append_nil] at bt
  refine wpAny_call (codeAny_mono (F.go X.A X.stack s H ⟨us, []⟩ us vs Q hg hr I.env0 bt rv h) (fun r s' hq => ?_))
  match r, hq with
  | .ok (.ret u), hq => exact I.after hq
  | .ok .next, hq => exact False.elim hq
  | .ok .brk, hq => exact False.elim hq
  | .ok .cont, hq => exact False.elim hq
  | .error _, hq => exact False.elim hq
/-- f(e, ..) -/
theorem pe_cl (c : Cl X.prog X.w X.K X.mg X.base k x sp) (hg : X.A.guards = some []) (hr : Room j X.A) (hk : k ≤ j) (gl : Gl X x) (ha : PA X (e :: es) t)
    (hd : (x == ("__debug__" : Str)) = false := by decide)
    (he : starEach (e :: es) X.env = (false, eval e X.env) :: starEach es X.env := by rfl)
    (hp : (backTo pos (starEach es X.env)).any (·.1) = false := by rfl) :
    PE X (.Call (.Name x p) (e :: es) [] pos) (tCall sp [] E0 t) := by
  obtain ⟨f, fd, ps, F, hm, kp, b⟩ := c.ex
  refine ⟨fun pins s σ H Q I h => wpAny_Call_Name_kw (ld_glob I gl hm (PySem.W.callWith_K (h₀ := X.base) I.ok.mod.kin kp ?_ he hp) hd)⟩
  refine thn (ha.run pos pins s σ H _ I h) (fun us s1 z => ?_)
  obtain ⟨vs, H1, I1, rv, q⟩ := z
  exact ⟨I1.kIn, run_cl F hg (hr.mono hk) b I1 rv (by simpa using q)⟩
/-- f() -/
theorem pe_cl0 (c : Cl X.prog X.w X.K X.mg X.base k x sp) (hg : X.A.guards = some []) (hr : Room j X.A) (hk : k ≤ j) (gl : Gl X x)
    (hd : (x == ("__debug__" : Str)) = false := by decide) :
    PE X (.Call (.Name x p) [] [] pos) (tCall sp [] E0 tNil) := by
  obtain ⟨f, fd, ps, F, hm, kp, b⟩ := c.ex
  refine ⟨fun pins s σ H Q I h => wpAny_Call_Name_kw (ld_glob I gl hm (PySem.W.callWith_K0 I.kIn kp ?_) hd)⟩
  exact run_cl (us := []) F hg (hr.mono hk) b I .nil h
end

/-! ### rules that lack: a great power, repr of data -/
def CPowW (i j : Int) : Prop := 0 ≤ j ∧ (Builtin.Int.intBits i : Int) * j ≤ 2 ^ 27
theorem op_powW {X : Cx} : OpR X (binaryOp .Pow) (rI CPowW fun i j => .int (i ^ j.toNat)) := opI fun _ _ _ _ _ _ _ hc q => pow_int hc.1 hc.2 q
theorem bits_le {i : Int} {n : Nat} (h : i.natAbs < 2 ^ n) : Builtin.Int.intBits i ≤ n := by
  unfold Builtin.Int.intBits
  split
  · exact Nat.zero_le _
  · rename_i hz
    have h0 : i.natAbs ≠ 0 := by
      intro z
      apply hz
      have : i = 0 := Int.natAbs_eq_zero.mp z
      simp [this]
    have := (Nat.log2_lt h0).mpr h
    omega
theorem powW {i : Int} {n k : Nat} (h : i.natAbs < 2 ^ n) (hs : n * k ≤ 2 ^ 27) : CPowW i (k : Int) := by
  refine ⟨by omega, ?_⟩
  have b := bits_le h
  have m : Builtin.Int.intBits i * k ≤ 2 ^ 27 := Nat.le_trans (Nat.mul_le_mul_right k b) hs
  exact_mod_cast m

/-- repr(x), x a list or a tuple of data -/
def rRep (K : PySem.W.Frag) : List V → Hp → VK → Prop := fun xs H Q => ∃ (a : Addr) (d : PyData), xs = [.ref a] ∧ Dp K H (.ref a) d ∧
  d.showable = true ∧ d.depth ≤ 50 ∧ d.shown.length ≤ sizeLine ∧ Q (.str d.shown) H
mutual
theorem dp_nodict {K : PySem.W.Frag} {H : Hp} : ∀ (d : PyData) (v : V), Dp K H v d → d.hasDict = false
  | .none, _, _ => rfl
  | .bool _, _, _ => rfl
  | .int _, _, _ => rfl
  | .str _, _, _ => rfl
  | .list ds, _, h => by
    cases h with
    | lst _ ha => exact dps_nodict ds _ ha
  | .tuple ds, _, h => by
    cases h with
    | tup _ ha => exact dps_nodict ds _ ha
  | .dict _, _, h => by cases h
theorem dps_nodict {K : PySem.W.Frag} {H : Hp} : ∀ (ds : List PyData) (vs : List V), DpAll K H vs ds → PyData.hasDictAll ds = false
  | [], _, _ => rfl
  | d :: ds, _, h => by
    cases h with
    | cons h1 h2 =>
      show (d.hasDict || PyData.hasDictAll ds) = false
      rw [dp_nodict d _ h1, dps_nodict ds _ h2]
      rfl
end
theorem call_rep {X : Cx} {k : Nat} (hg : X.A.guards = some []) (hr : Room k X.A) : CallR X (.builtin "repr") (rRep X.K) := by
  intro pins s σ H xs us Q I r h
  obtain ⟨a, d, rfl, hd, hs, hdp, hz, q⟩ := h
  obtain ⟨u, rfl, ru⟩ := vals1 r
  obtain ⟨as, rd⟩ := Dp.reads I d (.ref a) u hd ru
  cases ru
  have hu := hr.un
  exact repr_of_reads' rd hs (PyData.noDict_hsm (dp_nodict d _ hd)) hg (by omega) (fun _ _ e => e)
    (fun h' t tk hk => ⟨.str d.shown, H, I.kept (t' := tk) hk, ⟨t, rfl⟩, q⟩) hz

/-! ### the law's own call -/
section
variable {P : Program} {w : World} {K : PySem.W.Frag} {mg mb : Str → Option Value} {k : Nat} {fa a : Addr} {fd : FuncData} {x : Str} {sp : Sp} {s₁ : Shared} {vs : List Value} {ns : List Int}
/-- the heap as the caller has it, H what is tracked of it: at most the script -/
theorem top_run (KX : K.In s₁.heap) (gl : s₁.heap.Ns mainGlobals mg) (bl : s₁.heap.Ns builtinsNs mb) (bb : ∀ y : Str, y ≠ "__name__" → mb y = bootBuiltins y)
    (nol : s₁.heap.NoLimit) (ng : s₁.gens = #[]) (oa : s₁.heap.get? a = some { cls := .type "list", data := .seq vs.toArray }) (hr : Room k callerA)
    (F : ∀ base : Heap, K.In base → base.Ns mainGlobals mg → FnG P w K mg base k fa fd [x] sp)
    (bt : ∀ (s : Shared) (u : Value), BindsTo s fd ⟨[u], []⟩ [(x, u)]) {H : Hp} (only : Only H) (hok : HOk P w H s₁.heap)
    (at_a : ∀ b, H b ≠ none → b = a ∧ K.lookup a = none) (h : sp [.ref a] H (fun v _ => v = .bl true) E0) :
    codeAny (model P w) callerA (.call (.ref fa) ⟨[.ref a], []⟩)
      (fun r s' => r = .ok (.ret (.bool true)) ∧ OldK s₁.heap s'.heap ∧ s'.os = s₁.os ∧ AllBare s'.gens) s₁ := by
  have free : ∀ {b : Addr} {o : Obj}, s₁.heap.get? b = some o → (b = a → ∃ es ep, o.data = .dict es ep) → H b = none := by
    intro b o e d
    rcases Classical.em (H b = none) with z | z
    · exact z
    · obtain ⟨rfl, _⟩ := at_a b z
      obtain ⟨es, ep, hd⟩ := d rfl
      rw [oa] at e
      cases e
      cases hd
  have nsAt : ∀ {b : Addr} {m : Str → Option Value}, s₁.heap.Ns b m → (hidT s₁.heap H).Ns b m := by
    intro b m z
    obtain ⟨o, es, ep, e, d, r⟩ := z
    exact ⟨o, es, ep, hidT_get e (free e fun _ => ⟨es, ep, d⟩), d, r⟩
  have KB : K.In (hidT s₁.heap H) := by
    intro b o e
    refine hidT_get (KX b o e) ?_
    rcases Classical.em (H b = none) with z | z
    · exact z
    · obtain ⟨rfl, q⟩ := at_a b z
      rw [q] at e
      cases e
  obtain ⟨ml, l1, l2⟩ := nol
  have M : Mod K mg (hidT s₁.heap H) := ⟨KB, nsAt gl, ⟨mb, nsAt bl, bb⟩, ⟨ml, nsAt l1, l2⟩⟩
  have E : Env0 P w K mg (hidT s₁.heap H) callerA [] s₁ H := by
    refine ⟨rfl, M, fun b o e => of_hidT e, Nat.le_of_eq (hidT_size _ _), True.intro, fun b hb => ?_, hok, .of_eq ng⟩
    exact nomatch (show b ∈ ([] : List Addr) from hb)
  refine codeAny_mono ((F _ KB (nsAt gl)).go callerA [] s₁ H ⟨[.ref a], []⟩ [.ref a] [.ref a] _ rfl hr E (bt s₁ (.ref a)) (.cons rfl .nil) h) ?_
  intro r s' z
  match r, z with
  | .ok .next, z => exact False.elim z
  | .ok .brk, z => exact False.elim z
  | .ok .cont, z => exact False.elim z
  | .error _, z => exact False.elim z
  | .ok (.ret u), ⟨v, H', os, bare, un, hok', rv, q⟩ =>
    have q : v = .bl true := q
    subst q
    have ru : u = Value.bool true := rv
    subst ru
    refine ⟨rfl, OldK.of_keep fun b o e => ?_, os, bare⟩
    rcases only b with n | ⟨ob, xs, n⟩
    · exact un.keep b o e n (fun m => nomatch (show b ∈ ([] : List Addr) from m)) (fun m => nomatch m)
    · have f1 := hok b _ n
      have f2 := hok' b _ (un.frzs b ob _ n)
      have g1 : s₁.heap.get? b = some ob := f1.1
      have g2 : s'.heap.get? b = some ob := f2.1
      rw [e] at g1
      cases g1
      exact g2
theorem law_callG (KX : K.In s₁.heap) (gl : s₁.heap.Ns mainGlobals mg) (bl : s₁.heap.Ns builtinsNs mb) (bb : ∀ y : Str, y ≠ "__name__" → mb y = bootBuiltins y)
    (nol : s₁.heap.NoLimit) (ng : s₁.gens = #[]) (oa : s₁.heap.get? a = some { cls := .type "list", data := .seq vs.toArray }) (hi : IntsAre vs ns) (hl : ns.length ≤ sizeLine) (hr : Room k callerA)
    (F : ∀ base : Heap, K.In base → base.Ns mainGlobals mg → FnG P w K mg base k fa fd [x] sp)
    (bt : ∀ (s : Shared) (u : Value), BindsTo s fd ⟨[u], []⟩ [(x, u)])
    (hsp : ∀ H : Hp, Only H → SqL K H a (ns.map V.int) → sp [.ref a] H (fun v _ => v = .bl true) E0) :
    codeAny (model P w) callerA (.call (.ref fa) ⟨[.ref a], []⟩)
      (fun r s' => r = .ok (.ret (.bool true)) ∧ OldK s₁.heap s'.heap ∧ s'.os = s₁.os ∧ AllBare s'.gens) s₁ := by
  have rv := vals_ints hi
  have lenV := hi.length
  by_cases hk : K.lookup a = none
  · let H : Hp := fun b => if b = a then some (.frz { cls := .type "list", data := .seq vs.toArray } (.lst (ns.map V.int))) else none
    have Ha : H a = some (.frz { cls := .type "list", data := .seq vs.toArray } (.lst (ns.map V.int))) := if_pos rfl
    have Hn : ∀ {b : Addr}, b ≠ a → H b = none := fun h => if_neg h
    have only : Only H := by
      intro b
      by_cases e : b = a
      · subst e; exact .inr ⟨_, _, Ha⟩
      · exact .inl (Hn e)
    refine top_run KX gl bl bb nol ng oa hr F bt (H := H) only ?_ ?_ (hsp H only (.inl (.inr ⟨_, Ha⟩)))
    · intro b u z
      by_cases e : b = a
      · subst e
        rw [Ha] at z
        cases z
        exact ⟨oa, by rw [List.length_map]; exact hl, vs, _, rv, oa⟩
      · rw [Hn e] at z; cases z
    · intro b z
      by_cases e : b = a
      · exact ⟨e, hk⟩
      · exact absurd (Hn e) z
  · obtain ⟨o, ho⟩ := Option.ne_none_iff_exists'.mp hk
    have e := KX a o ho
    rw [oa] at e
    cases e
    have only : Only (fun _ => none) := fun _ => .inl rfl
    refine top_run KX gl bl bb nol ng oa hr F bt (H := fun _ => none) only (fun b u z => nomatch z) (fun b z => absurd rfl z) (hsp _ only (.inr ?_))
    exact ⟨_, vs.toArray, _, ho, rfl, rfl, rfl, by rw [List.size_toArray, lenV]; exact hl, by simpa using rv⟩
end
/-- what k_head leaves, from the promise of the law's def -/
theorem walkG {l : PySem.W.OpenLaw} {n k : Nat} {q : Program} {loose : List Str} {XP : (Str → Option Value) → Heap → Prop} {YP : World → Heap → Prop} {d : DefRec} {K : Params → PySem.W.Frag} {sp : PySem.W.Frag → Sp} {x : Str}
    (hn : l.most = some n) (hn2 : n ≤ sizeLine) (hdf : d.params.defaults = []) (hr : Room k callerA)
    (hY : ∀ (w : World) (h : Heap), YP w h → (K w.params).In h)
    (F : ∀ (w : World) (mg : Str → Option Value) (fa : Addr) (h : Heap), (K w.params).In h → h.Ns mainGlobals mg → mg d.name = some (.ref fa) →
      ∃ fd : FuncData, (∀ (s : Shared) (u : Value), BindsTo s fd ⟨[u], []⟩ [(x, u)]) ∧
        ∀ base : Heap, (K w.params).In base → base.Ns mainGlobals mg → FnG l.prog w (K w.params) mg base k fa fd [x] (sp (K w.params)))
    (hsp : ∀ (K : PySem.W.Frag) (H : Hp) (a : Addr) (ns : List Int), ns.length ≤ n → SqL K H a (ns.map V.int) →
      sp K [.ref a] H (fun v _ => v = .bl true) E0) :
    PySem.W.WalkO q loose XP YP l.row.toRowW d [] (fun f vs => PySem.call f vs) := by
  refine Att.attach_call hn hdf ?_
  intro w s₀ s₁ mg mb fa o pm cd doc a vs ns G Y ho hd hcd hmg oa hi hlen ng
  have KX := hY w _ Y
  obtain ⟨fd, bt, hF⟩ := F w mg fa _ KX G.T.g hmg
  exact law_callG KX G.T.g G.T.b G.T.builtins G.T.nolimit ng oa hi (Nat.le_trans hlen hn2) hr hF bt (fun H _ hS => hsp _ H a ns hlen hS)
end Gd

set_option Elab.async false
set_option linter.all false
set_option maxRecDepth 100000
set_option maxHeartbeats 4000000
/-! a def with defaults, called with all of its arguments, or with some of them -/
namespace Gd
open PySem PySem.Spec PyProof.Rows L2
theorem room65 {k : Nat} {A : Around} (r : Room k A) : A.units + 65 < cLine := by have := r.un; omega
/-- where a def with defaults stands; ds: the values that fill up -/
structure AtX (K : PySem.W.Frag) (mg : Str → Option Value) (x : Str) (st : Stmt) (ps : List Str) (ds : List Value) : Prop where
  ex : ∃ (f : Addr) (oc : Value) (od : Option Addr) (dV kV doc pm : Value) (an : Option Addr) (cdv ct : Value) (osl : Array (Option Value)),
    K.lookup f = some ⟨oc, od, .func (PySem.W.fnOf x x (defArgs st) (defBody st) (defScope st) dV kV doc pm an cdv ct), osl⟩ ∧ PySem.W.codeIn K cdv x = true ∧ PySem.W.keepIn K (.ref f) = true ∧ mg x = some (.ref f) ∧
    Binds K (PySem.W.fnOf x x (defArgs st) (defBody st) (defScope st) dV kV doc pm an cdv ct) ps ds
section
variable {P : Program} {w : World} {K : PySem.W.Frag} {mg : Str → Option Value} {base : Heap}
theorem clX {x : Str} {st : Stmt} {N ps : List Str} {k : Nat} {sp : Sp} (a : AtX K mg x st ps []) (S : FnScope N ps (defScope st))
    (len : ∀ vs H Q E, sp vs H Q E → vs.length = ps.length)
    (hb : ∀ (f : Addr) (cdv : Value) (A : Around) (outer : List Env) (s : Shared) (H : Hp) (vs : List V) (Q : VK),
      A.guards = some [] → Room k (A.deeper (envOfC x (defScope st) s.heap.objs.size f cdv)) → sp vs H Q E0 →
      ∃ t, PSs (cxOf CX0 P w K mg base N x (defScope st) f cdv A outer s H E0).nox (defBody st) t ∧
        t { nx := fun _ H' => Q .non H', rt := Q } (start N vs) H) : Cl P w K mg base (k + 1) x sp := by
  obtain ⟨f, oc, od, dV, kV, doc, pm, an, cdv, ct, osl, lk, hcd, kp, hm, bd⟩ := a.ex
  refine ⟨f, _, ps, ⟨len, fun A outer s H args us vs Q hg hr e0 bt rv hsp => ?_⟩, hm, kp, bd⟩
  have kin : K.In s.heap := e0.mod.kin.keeps (fun b o e => (e0.bs b o e).1)
  have nol : s.heap.NoLimit := e0.mod.nolimit.keeps (fun b o e => (e0.bs b o e).1)
  have pk : ((ps.zip us).all fun y => (defScope st).names.lookup y.1 == some NameKind.local ||
      (defScope st).names.lookup y.1 == some NameKind.cell) = true := by
    rw [List.all_eq_true]
    rintro ⟨n, v⟩ hm
    have hp := S.par n (List.of_mem_zip hm).1
    rcases hp with e | e <;> simp [e]
  refine Att.call_fn kin nol lk hcd hr.depth bt pk (fun s1 ic => ?_) S.co S.gen S.kind
  obtain ⟨t, ht, hq⟩ := hb f cdv A outer s H vs Q hg (hr.deeper _) hsp
  have J := inv_start (CX := CX0) (E := E0) (P := P) (w := w) (mg := mg) (base := base) S hr.hd e0 (len _ _ _ _ hsp) rv ic
  have J' := J.wish (fun _ _ => False)
  refine wpAny_mono (ht.run [] s1 (start N vs) H _ J' hq) (fun fl s' sp' => ?_) (fun _ _ z => z.elim)
  match fl, sp' with
  | .next, ⟨σ', H', L, q⟩ => exact ⟨.non, H', L.os, L.bare, L.base, L.hok, rfl, q⟩
  | .ret u, ⟨v, σ', H', L, rr, q⟩ => exact ⟨v, H', L.os, L.bare, L.base, L.hok, rr, q⟩
  | .brk, ⟨_, _, _, q⟩ => exact False.elim q
  | .cont, ⟨_, _, _, q⟩ => exact False.elim q
end
/-- one default behind: all arguments are given -/
theorem atX_all {K : PySem.W.Frag} {h : Heap} {mg : Str → Option Value} {x : Str} {st : Stmt} {ps : List Str} {f T : Addr} {od an td : Option Addr} {sl ts : Array (Option Value)} {oc kV dc pm cd ct d : Value} {tn : Nat} (X : K.In h) (G : h.Ns mainGlobals mg)
    (a : PySem.W.nsIn K mainGlobals x = some (some (.ref f))) (l : K.lookup f = some ⟨oc, od, .func (PySem.W.fnOf x x (defArgs st) (defBody st) (defScope st) (.ref T) kV dc pm an cd ct), sl⟩) (c : PySem.W.codeIn K cd x = true) (k : PySem.W.keepIn K (.ref f) = true)
    (u : K.lookup T = some ⟨.type "tuple", td, .seq #[d] tn, ts⟩)
    (hb : ∀ (T : Addr) (kV doc pm : Value) (an : Option Addr) (cdv ct : Value) (us its : List Value), us.length = ps.length → its.length = 1 →
      ∃ k, bindArgs (PySem.W.fnOf x x (defArgs st) (defBody st) (defScope st) (.ref T) kV doc pm an cdv ct) ⟨us, []⟩ = seqItems? (.ref T) >>= k ∧ k (some its.toArray) = pure (ps.zip us)) : AtX K mg x st ps [] := by
  refine ⟨f, oc, od, .ref T, kV, dc, pm, an, cd, ct, sl, l, c, k, PySem.W.mg_of X G a, fun s us KX hl => ?_⟩
  rw [List.append_nil] at hl ⊢
  obtain ⟨g, e1, e2⟩ := hb T kV dc pm an cd ct us [d] hl rfl
  refine BindsTo.of_looks fun M => ?_
  rw [e1]
  exact looks_items (its := #[d]) KX u rfl (PySem.W.Looks.of_pure e2)
/-- a method's call within a comprehension: the constants said -/
theorem pe_bmB {X : Cx} {K0 : PySem.W.Frag} {T : String} {name : Str} {id : String} {r : V → List V → Hp → VK → Prop} {o e : Expr} {es : List Expr} {to : TE} {t : TA} {apos cpos : Pos} (hK : X.K = K0) (pa : PlainAttrs T) (slot : Slot T name id) (hty : typeOf (.builtin id) = pure (.type "method_descriptor")) (hm : MtR X id r) (ho : PE X o to) (ha : PA X (e :: es) t)
    (hbase : attributeBase o name X.env (eval o X.env) = eval o X.env := by rfl)
    (hfew : ((backTo cpos (starEach (e :: es) X.env)).all (fun x => !x.1) && (backToKw cpos (keywordEach [] X.env)).all (fun x => x.1.isSome)
      && decide ((e :: es).length + ([] : List Keyword).length + (if ([] : List Keyword).isEmpty then 0 else 1) < 30)) = true := by rfl)
    (hline : (apos.endLine == cpos.line) = true := by rfl) (hs : starEach (e :: es) X.env = (false, eval e X.env) :: starEach es X.env := by rfl) (hplain : (backTo cpos (starEach es X.env)).any (·.1) = false := by rfl) :
    PE X (.Call (.Attribute o name apos) (e :: es) [] cpos) (tBM K0 T r to t) := by
  subst hK
  exact pe_bm pa slot hty hm ho ha hbase hfew hline hs hplain
end Gd

set_option Elab.async false
set_option linter.all false
set_option maxRecDepth 100000
set_option maxHeartbeats 4000000
/-! a def with defaults, called with fewer arguments: the values that fill up come behind -/
namespace Gd
open PySem PySem.Spec PyProof.Rows L2
structure ClD (P : Program) (w : World) (K : PySem.W.Frag) (mg : Str → Option Value) (base : Heap) (k : Nat) (x : Str) (sp : Sp) (dvs : List V) : Prop where
  ex : ∃ (f : Addr) (fd : FuncData) (ps : List Str) (ds : List Value), FnG P w K mg base k f fd ps sp ∧ mg x = some (.ref f) ∧ PySem.W.keepIn K (.ref f) = true ∧ Binds K fd ps ds ∧ Vals dvs ds
section
variable {P : Program} {w : World} {K : PySem.W.Frag} {mg : Str → Option Value} {base : Heap}
theorem clXD {x : Str} {st : Stmt} {N ps : List Str} {k : Nat} {sp : Sp} {ds : List Value} {dvs : List V} (a : AtX K mg x st ps ds) (vd : Vals dvs ds) (S : FnScope N ps (defScope st))
    (len : ∀ vs H Q E, sp vs H Q E → vs.length = ps.length)
    (hb : ∀ (f : Addr) (cdv : Value) (A : Around) (outer : List Env) (s : Shared) (H : Hp) (vs : List V) (Q : VK),
      A.guards = some [] → Room k (A.deeper (envOfC x (defScope st) s.heap.objs.size f cdv)) → sp vs H Q E0 →
      ∃ t, PSs (cxOf CX0 P w K mg base N x (defScope st) f cdv A outer s H E0).nox (defBody st) t ∧
        t { nx := fun _ H' => Q .non H', rt := Q } (start N vs) H) : ClD P w K mg base (k + 1) x sp dvs := by
  obtain ⟨f, oc, od, dV, kV, doc, pm, an, cdv, ct, osl, lk, hcd, kp, hm, bd⟩ := a.ex
  refine ⟨f, _, ps, ds, ⟨len, fun A outer s H args us vs Q hg hr e0 bt rv hsp => ?_⟩, hm, kp, bd, vd⟩
  have kin : K.In s.heap := e0.mod.kin.keeps (fun b o e => (e0.bs b o e).1)
  have nol : s.heap.NoLimit := e0.mod.nolimit.keeps (fun b o e => (e0.bs b o e).1)
  have pk : ((ps.zip us).all fun y => (defScope st).names.lookup y.1 == some NameKind.local ||
      (defScope st).names.lookup y.1 == some NameKind.cell) = true := by
    rw [List.all_eq_true]
    rintro ⟨n, v⟩ hm
    have hp := S.par n (List.of_mem_zip hm).1
    rcases hp with e | e <;> simp [e]
  refine Att.call_fn kin nol lk hcd hr.depth bt pk (fun s1 ic => ?_) S.co S.gen S.kind
  obtain ⟨t, ht, hq⟩ := hb f cdv A outer s H vs Q hg (hr.deeper _) hsp
  have J := inv_start (CX := CX0) (E := E0) (P := P) (w := w) (mg := mg) (base := base) S hr.hd e0 (len _ _ _ _ hsp) rv ic
  have J' := J.wish (fun _ _ => False)
  refine wpAny_mono (ht.run [] s1 (start N vs) H _ J' hq) (fun fl s' sp' => ?_) (fun _ _ z => z.elim)
  match fl, sp' with
  | .next, ⟨σ', H', L, q⟩ => exact ⟨.non, H', L.os, L.bare, L.base, L.hok, rfl, q⟩
  | .ret u, ⟨v, σ', H', L, rr, q⟩ => exact ⟨v, H', L.os, L.bare, L.base, L.hok, rr, q⟩
  | .brk, ⟨_, _, _, q⟩ => exact False.elim q
  | .cont, ⟨_, _, _, q⟩ => exact False.elim q
end
theorem vals_append : ∀ {vs : List V} {us : List Value} {ws : List V} {zs : List Value}, Vals vs us → Vals ws zs → Vals (vs ++ ws) (us ++ zs)
  | _, _, _, _, .nil, h => h
  | _, _, _, _, .cons a b, h => .cons a (vals_append b h)
section
variable {X : Cx} {k j : Nat} {x : Str} {sp : Sp} {p pos : Pos} {e : Expr} {es : List Expr} {t : TA} {dvs : List V}
theorem run_clD {f : Addr} {fd : FuncData} {ps : List Str} {ds : List Value} {pins : List (Addr × Obj)} {σ : L2.St} {H : Hp} {s : Shared} {Q : VK} {us : List Value} {vs : List V}
    (F : FnG X.prog X.w X.K X.mg X.base k f fd ps sp) (hg : X.A.guards = some []) (hr : Room k X.A) (b : Binds X.K fd ps ds) (vd : Vals dvs ds)
    (I : Inv X pins σ H s) (rv : Vals vs us) (h : sp (vs ++ dvs) H Q E0) : wpAny (model X.prog X.w) X.A (call (.ref f) us) (EP X pins σ Q) X.xe s := by
  have ra := vals_append rv vd
  have hl : (us ++ ds).length = ps.length := ra.length.symm.trans (F.len _ _ _ _ h)
  have bt := b s us I.kIn hl
  refine wpAny_call (codeAny_mono (F.go X.A X.stack s H ⟨us, []⟩ (us ++ ds) (vs ++ dvs) Q hg hr I.env0 bt ra h) (fun r s' hq => ?_))
  match r, hq with
  | .ok (.ret u), hq => exact I.after hq
  | .ok .next, hq => exact False.elim hq
  | .ok .brk, hq => exact False.elim hq
  | .ok .cont, hq => exact False.elim hq
  | .error _, hq => exact False.elim hq
/-- f(e, ..), some arguments left out -/
theorem pe_clD (c : ClD X.prog X.w X.K X.mg X.base k x sp dvs) (hg : X.A.guards = some []) (hr : Room j X.A) (hk : k ≤ j) (gl : Gl X x) (ha : PA X (e :: es) t)
    (hd : (x == ("__debug__" : Str)) = false := by decide)
    (he : starEach (e :: es) X.env = (false, eval e X.env) :: starEach es X.env := by rfl)
    (hp : (backTo pos (starEach es X.env)).any (·.1) = false := by rfl) :
    PE X (.Call (.Name x p) (e :: es) [] pos) (tCall sp dvs E0 t) := by
  obtain ⟨f, fd, ps, ds, F, hm, kp, b, vd⟩ := c.ex
  refine ⟨fun pins s σ H Q I h => wpAny_Call_Name_kw (ld_glob I gl hm (PySem.W.callWith_K (h₀ := X.base) I.ok.mod.kin kp ?_ he hp) hd)⟩
  refine thn (ha.run pos pins s σ H _ I h) (fun us s1 z => ?_)
  obtain ⟨vs, H1, I1, rv, q⟩ := z
  exact ⟨I1.kIn, run_clD F hg (hr.mono hk) b vd I1 rv q⟩
end
/-- one default behind: it is left out -/
theorem atX_less {K : PySem.W.Frag} {h : Heap} {mg : Str → Option Value} {x : Str} {st : Stmt} {ps : List Str} {f T : Addr} {od an td : Option Addr} {sl ts : Array (Option Value)} {oc kV dc pm cd ct d : Value} {tn : Nat} (X : K.In h) (G : h.Ns mainGlobals mg)
    (a : PySem.W.nsIn K mainGlobals x = some (some (.ref f))) (l : K.lookup f = some ⟨oc, od, .func (PySem.W.fnOf x x (defArgs st) (defBody st) (defScope st) (.ref T) kV dc pm an cd ct), sl⟩) (c : PySem.W.codeIn K cd x = true) (k : PySem.W.keepIn K (.ref f) = true)
    (u : K.lookup T = some ⟨.type "tuple", td, .seq #[d] tn, ts⟩)
    (hb : ∀ (T : Addr) (kV doc pm : Value) (an : Option Addr) (cdv ct : Value) (us its : List Value), us.length + 1 = ps.length → its.length = 1 →
      ∃ k, bindArgs (PySem.W.fnOf x x (defArgs st) (defBody st) (defScope st) (.ref T) kV doc pm an cdv ct) ⟨us, []⟩ = seqItems? (.ref T) >>= k ∧ k (some its.toArray) = pure (ps.zip (us ++ its))) : AtX K mg x st ps [d] := by
  refine ⟨f, oc, od, .ref T, kV, dc, pm, an, cd, ct, sl, l, c, k, PySem.W.mg_of X G a, fun s us KX hl => ?_⟩
  obtain ⟨g, e1, e2⟩ := hb T kV dc pm an cd ct us [d] (by rw [List.length_append] at hl; exact hl) rfl
  refine BindsTo.of_looks fun M => ?_
  rw [e1]
  exact looks_items (its := #[d]) KX u rfl (PySem.W.Looks.of_pure e2)
end Gd

set_option Elab.async false
set_option linter.all false
set_option maxRecDepth 100000
set_option maxHeartbeats 4000000
namespace Rm
open PySem PySem.Spec PyProof.Rows L2 Gd

/-! ### how long a display is -/
structure Fit (L n : Nat) (d : PyData) : Prop where
  sh : d.showable = true
  dp : d.depth ≤ n
  ln : d.shown.length ≤ L
theorem Fit.mono {L n L' n' : Nat} {d : PyData} (f : Fit L n d) (h : L ≤ L') (h' : n ≤ n') : Fit L' n' d := ⟨f.sh, by have := f.dp; omega, by have := f.ln; omega⟩
theorem allSh {L n : Nat} : ∀ {ds : List PyData}, (∀ d ∈ ds, Fit L n d) → PyData.showableAll ds = true ∧ PyData.depthAll ds ≤ n ∧ piled (PyData.shownAll ds) ≤ ds.length * (L + 2)
  | [], _ => ⟨rfl, Nat.zero_le _, Nat.zero_le _⟩
  | d :: ds, h => by
    obtain ⟨a, b, c⟩ := allSh (ds := ds) fun x hx => h x (List.mem_cons_of_mem _ hx)
    have f := h d List.mem_cons_self
    refine ⟨?_, ?_, ?_⟩
    · show (d.showable && PyData.showableAll ds) = true
      rw [f.sh, a]; rfl
    · show max d.depth (PyData.depthAll ds) ≤ n
      have := f.dp
      omega
    · show piled (d.shown :: PyData.shownAll ds) ≤ _
      rw [piled_cons, List.length_cons]
      have := f.ln
      have e : (ds.length + 1) * (L + 2) = ds.length * (L + 2) + (L + 2) := Nat.succ_mul _ _
      omega
theorem listText_le (ts : List Str) : (listText ts).length ≤ piled ts + 2 := by
  cases ts with
  | nil => decide
  | cons t r =>
    have h := textFrom_length_pos r 1 (("[" : Str) ++ (if (0 : Nat) > 0 then ", " else "" : String) ++ t) (Nat.succ_pos 0)
    have e : ((("[" : Str) ++ (if (0 : Nat) > 0 then ", " else "" : String) ++ t)).length = 1 + t.length := by
      rw [strLen_append, strLen_append]; rfl
    have x : (listText (t :: r)).length = (textFrom 1 (("[" : Str) ++ (if (0 : Nat) > 0 then ", " else "" : String) ++ t) r).length + 1 := by
      show (textFrom 1 (("[" : Str) ++ (if (0 : Nat) > 0 then ", " else "" : String) ++ t) r ++ "]").length = _
      rw [strLen_append]; rfl
    rw [x, h, e, piled_cons]
    omega
theorem tupleText_le (ts : List Str) : (tupleText ts).length ≤ piled ts + 3 := by
  unfold tupleText
  rw [strLen_append, strLen_append]
  have e1 : ((("(" : String) : Str)).length = 1 := rfl
  have e3 : (((if ts.length == 1 then ",)" else ")" : String) : Str)).length ≤ 2 := by split <;> decide
  rw [e1]
  cases ts with
  | nil =>
    have : (Str.join ", " []).length = 0 := by decide
    omega
  | cons t r =>
    have := join_length_add (t :: r) (by simp)
    omega
theorem fit_list {L n : Nat} {ds : List PyData} (h : ∀ d ∈ ds, Fit L n d) : Fit (ds.length * (L + 2) + 3) (n + 1) (.list ds) := by
  obtain ⟨a, b, c⟩ := allSh h
  have := listText_le (PyData.shownAll ds)
  exact ⟨a, by show PyData.depthAll ds + 1 ≤ _; omega, by show (listText (PyData.shownAll ds)).length ≤ _; omega⟩
theorem fit_tup {L n : Nat} {ds : List PyData} (h : ∀ d ∈ ds, Fit L n d) : Fit (ds.length * (L + 2) + 3) (n + 1) (.tuple ds) := by
  obtain ⟨a, b, c⟩ := allSh h
  have := tupleText_le (PyData.shownAll ds)
  exact ⟨a, by show PyData.depthAll ds + 1 ≤ _; omega, by show (tupleText (PyData.shownAll ds)).length ≤ _; omega⟩
theorem fit_int {i : Int} (h : i.natAbs < 2 ^ 200) : Fit 210 0 (.int i) := by
  have hl : i.natAbs.log2 < 200 := PySem.Flt.log2_lt_of (by decide) h
  refine ⟨?_, Nat.le_refl _, ?_⟩
  · show decide (i.natAbs.log2 < 1920) = true
    exact decide_eq_true (by omega)
  · show (Str.ofString (toString i)).length ≤ 210
    rw [PySem.ofString_length]
    have := int_text_length_le (k := 200) (by decide) hl
    omega
theorem fit_none : Fit 210 0 .none := ⟨rfl, Nat.le_refl _, by decide +kernel⟩
theorem fit_bool (b : Bool) : Fit 210 0 (.bool b) := ⟨rfl, Nat.le_refl _, by cases b <;> decide +kernel⟩

/-! ### records -/
structure Ev where
  t : Int
  k : Int
  d : Bool
def wayS (d : Bool) : Str := if d then "down" else "up"
theorem wayS_inj {a b : Bool} : wayS a = wayS b ↔ a = b := by cases a <;> cases b <;> decide +kernel
theorem wayS_down (d : Bool) : decide (V.str (wayS d) = V.str "down") = d := by cases d <;> decide +kernel
def evD (e : Ev) : PyData := .tuple [.int e.t, .int e.k, .str (wayS e.d)]
def stD (e : Ev) : PyData := .tuple [.int e.k, .str (wayS e.d)]
def evV (e : Ev) : List V := [.int e.t, .int e.k, .str (wayS e.d)]
def stV (e : Ev) : List V := [.int e.k, .str (wayS e.d)]
def recD (es : List Ev) : PyData := .list (es.map evD)
def ordD (es : List Ev) : PyData := .list (es.map stD)
def after (h : Int → Bool) (e : Ev) : Int → Bool := fun k => if k = e.k then e.d else h k
def heldB (es : List Ev) : Int → Bool := es.foldl after fun _ => false
theorem heldB_snoc (es : List Ev) (e : Ev) : heldB (es ++ [e]) = after (heldB es) e := by unfold heldB; rw [List.foldl_append]; rfl
theorem heldB_take {es : List Ev} {i : Nat} {e : Ev} (h : es[i]? = some e) : heldB (es.take (i + 1)) = after (heldB (es.take i)) e := by
  rw [List.take_add_one, h]
  exact heldB_snoc _ _
/-- a record as the document has it -/
def Valid (es : List Ev) : Prop := ∀ (i : Nat) (e : Ev), es[i]? = some e → 0 ≤ e.k ∧ heldB (es.take i) e.k = !e.d ∧ ∀ (j : Nat) (e' : Ev), j < i → es[j]? = some e' → e'.t ≤ e.t
/-- an order: the same without ticks -/
def ValidO (es : List Ev) : Prop := ∀ (i : Nat) (e : Ev), es[i]? = some e → 0 ≤ e.k ∧ heldB (es.take i) e.k = !e.d
theorem Valid.o {es : List Ev} (h : Valid es) : ValidO es := fun i e x => ⟨(h i e x).1, (h i e x).2.1⟩
theorem Valid.nil : Valid [] := fun _ _ h => by simp at h
theorem Valid.take {es : List Ev} (h : Valid es) (n : Nat) : Valid (es.take n) := fun i e x => by
  have hi : i < n := by
    rcases Nat.lt_or_ge i n with q | q
    · exact q
    · rw [List.getElem?_eq_none (by rw [List.length_take]; omega)] at x; cases x
  rw [List.getElem?_take_of_lt hi] at x
  obtain ⟨a, b, c⟩ := h i e x
  refine ⟨a, ?_, fun j e' hj y => ?_⟩
  · rw [List.take_take, Nat.min_eq_left (by omega)]; exact b
  · rw [List.getElem?_take_of_lt (by omega)] at y
    exact c j e' hj y
theorem ValidO.take {es : List Ev} (h : ValidO es) (n : Nat) : ValidO (es.take n) := fun i e x => by
  have hi : i < n := by
    rcases Nat.lt_or_ge i n with q | q
    · exact q
    · rw [List.getElem?_eq_none (by rw [List.length_take]; omega)] at x; cases x
  rw [List.getElem?_take_of_lt hi] at x
  obtain ⟨a, b⟩ := h i e x
  exact ⟨a, by rw [List.take_take, Nat.min_eq_left (by omega)]; exact b⟩
theorem Valid.snoc {es : List Ev} {e : Ev} (h : Valid es) (h0 : 0 ≤ e.k) (hb : heldB es e.k = !e.d) (ht : ∀ e' ∈ es, e'.t ≤ e.t) : Valid (es ++ [e]) := fun i x hx => by
  rcases Nat.lt_or_ge i es.length with q | q
  · rw [List.getElem?_append_left q] at hx
    obtain ⟨a, b, c⟩ := h i x hx
    refine ⟨a, ?_, fun j e' hj y => ?_⟩
    · rw [List.take_append_of_le_length (by omega)]; exact b
    · rw [List.getElem?_append_left (by omega)] at y
      exact c j e' hj y
  · have hi : i = es.length := by
      have := (List.getElem?_eq_some_iff.mp hx).1
      rw [List.length_append] at this
      simp at this
      omega
    subst hi
    rw [List.getElem?_append_right (Nat.le_refl _), Nat.sub_self] at hx
    have ex : e = x := Option.some.inj hx
    subst ex
    refine ⟨h0, ?_, fun j e' hj y => ?_⟩
    · rw [List.take_append_of_le_length (Nat.le_refl _), List.take_length]; exact hb
    · rw [List.getElem?_append_left hj] at y
      exact ht e' (List.mem_of_getElem? y)
/-- the ticks and keys are not too great to be shown -/
def Small (es : List Ev) : Prop := ∀ e ∈ es, e.t.natAbs < 2 ^ 200 ∧ e.k.natAbs < 2 ^ 200
theorem fit_ev {e : Ev} (h : e.t.natAbs < 2 ^ 200 ∧ e.k.natAbs < 2 ^ 200) : Fit 1000 1 (evD e) := by
  refine Fit.mono (fit_tup (L := 210) (n := 0) fun d hd => ?_) (by show 3 * 212 + 3 ≤ 1000; decide) (Nat.le_refl _)
  simp only [List.mem_cons, List.mem_nil_iff, or_false] at hd
  rcases hd with rfl | rfl | rfl
  · exact fit_int h.1
  · exact fit_int h.2
  · exact ⟨rfl, Nat.le_refl _, by cases e.d <;> decide +kernel⟩
theorem fit_st {e : Ev} (h : e.k.natAbs < 2 ^ 200) : Fit 1000 1 (stD e) := by
  refine Fit.mono (fit_tup (L := 210) (n := 0) fun d hd => ?_) (by show 2 * 212 + 3 ≤ 1000; decide) (Nat.le_refl _)
  simp only [List.mem_cons, List.mem_nil_iff, or_false] at hd
  rcases hd with rfl | rfl
  · exact fit_int h
  · exact ⟨rfl, Nat.le_refl _, by cases e.d <;> decide +kernel⟩
theorem fit_rec {es : List Ev} (h : Small es) (hl : es.length ≤ 1000) : Fit 1100000 2 (recD es) := by
  refine Fit.mono (fit_list (L := 1000) (n := 1) fun d hd => ?_) (by rw [List.length_map]; omega) (Nat.le_refl _)
  obtain ⟨e, he, rfl⟩ := List.mem_map.mp hd
  exact fit_ev (h e he)
theorem fit_ord {es : List Ev} (h : Small es) (hl : es.length ≤ 1000) : Fit 1100000 2 (ordD es) := by
  refine Fit.mono (fit_list (L := 1000) (n := 1) fun d hd => ?_) (by rw [List.length_map]; omega) (Nat.le_refl _)
  obtain ⟨e, he, rfl⟩ := List.mem_map.mp hd
  exact fit_st (h e he).2

/-! ### the dict of what is held -/
structure HeldK (kvs : List (Key × V)) (h : Int → Bool) : Prop where
  fm : ∀ p ∈ kvs, ∃ (k : Int) (b : Bool), p = (Sum.inl k, V.bl b)
  nd : (kvs.map (·.1)).Nodup
  at_ : ∀ k : Int, (valV kvs (Sum.inl k)).getD (.bl false) = .bl (h k)
theorem HeldK.nil : HeldK [] fun _ => false := ⟨fun _ h => by simp at h, List.nodup_nil, fun _ => rfl⟩
theorem put_len (kvs : List (Key × V)) (k : Key) (v : V) : (putK kvs k v).length ≤ kvs.length + 1 := by
  unfold putK
  split
  · rw [List.length_map]; omega
  · rw [List.length_append]; exact Nat.le_refl _
theorem put_keys (kvs : List (Key × V)) (k : Key) (v : V) (h : (kvs.map (·.1)).Nodup) : ((putK kvs k v).map (·.1)).Nodup := by
  cases e : valV kvs k with
  | none => exact nd_putK v h e
  | some x =>
    have a : (kvs.any fun kv => decide (kv.1 = k)) = true := by rw [valV_any, e]; rfl
    unfold putK
    rw [if_pos a, List.map_map]
    have : ((fun p : Key × V => p.1) ∘ fun kv => if kv.1 = k then (kv.1, v) else kv) = (·.1) := by
      funext p
      show (if p.1 = k then (p.1, v) else p).1 = p.1
      split <;> rfl
    rw [this]
    exact h
theorem HeldK.put {kvs : List (Key × V)} {es : List Ev} {e : Ev} (h : HeldK kvs (heldB es)) : HeldK (putK kvs (Sum.inl e.k) (.bl e.d)) (heldB (es ++ [e])) := by
  refine ⟨fun p hp => ?_, put_keys _ _ _ h.nd, fun k => ?_⟩
  · unfold putK at hp
    split at hp
    · obtain ⟨q, hq, rfl⟩ := List.mem_map.mp hp
      obtain ⟨k, b, rfl⟩ := h.fm q hq
      by_cases z : (Sum.inl k : Key) = Sum.inl e.k
      · exact ⟨k, e.d, by simp [z]⟩
      · exact ⟨k, b, by simp [z]⟩
    · rcases List.mem_append.mp hp with hp | hp
      · exact h.fm p hp
      · exact ⟨e.k, e.d, List.mem_singleton.mp hp⟩
  · rw [valV_put, heldB_snoc]
    unfold after
    by_cases z : k = e.k
    · subst z; simp
    · rw [if_neg (fun q => z (Sum.inl.inj q)), if_neg z]
      exact h.at_ k
def downs (kvs : List (Key × V)) : List Int := kvs.filterMap fun p => match p with
  | (Sum.inl k, .bl true) => some k
  | _ => none
theorem downs_cons (k : Int) (b : Bool) (r : List (Key × V)) : downs ((Sum.inl k, .bl b) :: r) = if b then k :: downs r else downs r := by
  cases b <;> simp [downs, List.filterMap_cons]
theorem downs_sub : ∀ {kvs : List (Key × V)} {k : Int}, k ∈ downs kvs → (Sum.inl k : Key) ∈ kvs.map (·.1)
  | kvs, k, h => by
    obtain ⟨p, hp, e⟩ := List.mem_filterMap.mp h
    refine List.mem_map.mpr ⟨p, hp, ?_⟩
    obtain ⟨a, b⟩ := p
    cases a with
    | inr _ => cases e
    | inl k' =>
      cases b with
      | bl c => cases c <;> simp at e; rw [e]
      | non => cases e
      | int _ => cases e
      | str _ => cases e
      | byt _ => cases e
      | flt _ => cases e
      | ref _ => cases e
      | ty _ => cases e
theorem downs_nd : ∀ {kvs : List (Key × V)}, (∀ p ∈ kvs, ∃ (k : Int) (b : Bool), p = (Sum.inl k, V.bl b)) → (kvs.map (·.1)).Nodup → (downs kvs).Nodup
  | [], _, _ => List.nodup_nil
  | p :: r, fm, nd => by
    obtain ⟨k, b, rfl⟩ := fm p List.mem_cons_self
    have nd' : ((Sum.inl k : Key) :: r.map (·.1)).Nodup := nd
    obtain ⟨n1, n2⟩ := List.nodup_cons.mp nd'
    have ih := downs_nd (fun q hq => fm q (List.mem_cons_of_mem _ hq)) n2
    rw [downs_cons]
    split
    · exact List.nodup_cons.mpr ⟨fun m => n1 (downs_sub m), ih⟩
    · exact ih
theorem downs_mem : ∀ {kvs : List (Key × V)}, (∀ p ∈ kvs, ∃ (k : Int) (b : Bool), p = (Sum.inl k, V.bl b)) → (kvs.map (·.1)).Nodup → ∀ k : Int, k ∈ downs kvs ↔ valV kvs (Sum.inl k) = some (.bl true)
  | [], _, _, k => by simp [downs, valV]
  | p :: r, fm, nd, k => by
    obtain ⟨k', b, rfl⟩ := fm p List.mem_cons_self
    have nd' : ((Sum.inl k' : Key) :: r.map (·.1)).Nodup := nd
    obtain ⟨n1, n2⟩ := List.nodup_cons.mp nd'
    have ih := downs_mem (fun q hq => fm q (List.mem_cons_of_mem _ hq)) n2 k
    rw [downs_cons]
    by_cases z : k' = k
    · subst z
      rw [valV_pos rfl]
      cases b with
      | true => simp
      | false =>
        simp only [Bool.false_eq_true, if_false]
        constructor
        · intro m; exact absurd (downs_sub m) n1
        · intro m; cases m
    · rw [valV_neg (fun q => z (Sum.inl.inj q))]
      rw [← ih]
      split
      · rw [List.mem_cons]
        exact ⟨fun q => q.resolve_left fun e => z e.symm, .inr⟩
      · exact Iff.rfl
theorem HeldK.mem {kvs : List (Key × V)} {h : Int → Bool} (x : HeldK kvs h) (k : Int) : k ∈ downs kvs ↔ h k = true := by
  rw [downs_mem x.fm x.nd k]
  have q := x.at_ k
  cases e : valV kvs (Sum.inl k) with
  | none =>
    rw [e] at q
    have q : V.bl false = .bl (h k) := q
    have : h k = false := (V.bl.inj q).symm
    simp [this]
  | some v =>
    rw [e] at q
    have q : v = .bl (h k) := q
    subst q
    constructor
    · intro z
      exact V.bl.inj (Option.some.inj z)
    · intro z
      rw [z]
/-- two ascending lists of the same keys -/
theorem same_sorted {a b c d : List Int} (h : ∀ k, k ∈ a ↔ k ∈ b) (na : a.Nodup) (nb : b.Nodup) (pa : c.Perm a) (pb : d.Perm b) (sa : c.Pairwise (· ≤ ·)) (sb : d.Pairwise (· ≤ ·)) : c = d := by
  have p : a.Perm b := (List.perm_ext_iff_of_nodup na nb).mpr h
  exact List.Perm.eq_of_pairwise (fun x y _ _ h1 h2 => Int.le_antisymm h1 h2) sa sb ((pa.trans p).trans pb.symm)

/-! ### heaps that change at one address alone -/
def Off (r : Addr) (H H' : Hp) : Prop := ∀ b o, H b = some o → b ≠ r → H' b = some o
theorem Off.refl {r : Addr} (H : Hp) : Off r H H := fun _ _ h _ => h
theorem Off.trans {r : Addr} {H H1 H2 : Hp} (a : Off r H H1) (b : Off r H1 H2) : Off r H H2 := fun c o h n => b c o (a c o h n) n
theorem Off.of {r : Addr} {H H1 : Hp} (a : Same H H1) : Off r H H1 := fun c o h _ => a c o h
theorem off_upd {r : Addr} {H : Hp} {o : HO} : Off r H (upd H r o) := fun b _ h n => by rw [upd_ne n]; exact h
theorem same_upd {H : Hp} {p : Addr} {o : HO} (h : H p = none) : Same H (upd H p o) := fun b x e => by
  rw [upd_ne (ne_of_none e h)]
  exact e
/-- what is new may change -/
theorem Same.off {H H1 H2 : Hp} {p : Addr} (s : Same H H1) (h : H p = none) (o : Off p H1 H2) : Same H H2 := fun b x e => o b x (s b x e) (ne_of_none e h)

/-! ### lists of tuples -/
def Tups {α : Type} (H : Hp) (f : α → List V) (as : List Addr) (es : List α) : Prop := as.length = es.length ∧ ∀ (i : Nat) (a : Addr) (e : α), as[i]? = some a → es[i]? = some e → H a = some (.tup (f e))
def Lst {α : Type} (f : α → List V) (H : Hp) (c : Addr) (es : List α) : Prop := ∃ as : List Addr, H c = some (.lst (as.map V.ref)) ∧ Tups H f as es
section
variable {α : Type} {f : α → List V} {H H' : Hp} {c r : Addr} {as : List Addr} {es : List α}
theorem Tups.nil : Tups H f [] ([] : List α) := ⟨rfl, fun i a e h _ => by simp at h⟩
theorem Tups.same (h : Tups H f as es) (s : Same H H') : Tups H' f as es := ⟨h.1, fun i a e x y => s _ _ (h.2 i a e x y)⟩
theorem Tups.off {ys : List V} (h : Tups H f as es) (hr : H r = some (.lst ys)) (o : Off r H H') : Tups H' f as es :=
  ⟨h.1, fun i a e x y => o _ _ (h.2 i a e x y) (ne_of (h.2 i a e x y) hr (by intro z; cases z))⟩
theorem Tups.snoc {a : Addr} {e : α} (h : Tups H f as es) (ha : H a = some (.tup (f e))) : Tups H f (as ++ [a]) (es ++ [e]) := by
  refine ⟨by rw [List.length_append, List.length_append, h.1]; rfl, fun i b x hb hx => ?_⟩
  rcases Nat.lt_or_ge i as.length with q | q
  · rw [List.getElem?_append_left q] at hb
    rw [List.getElem?_append_left (by rw [← h.1]; exact q)] at hx
    exact h.2 i b x hb hx
  · have hl := h.1
    have hi : i = as.length := by
      have := (List.getElem?_eq_some_iff.mp hb).1
      rw [List.length_append] at this
      simp at this
      omega
    subst hi
    rw [List.getElem?_append_right (Nat.le_refl _), Nat.sub_self] at hb
    rw [List.getElem?_append_right (by omega), show as.length - es.length = 0 by omega] at hx
    have e1 : a = b := Option.some.inj hb
    have e2 : e = x := Option.some.inj hx
    subst e1 e2
    exact ha
theorem Tups.take (h : Tups H f as es) (n : Nat) : Tups H f (as.take n) (es.take n) := by
  refine ⟨by rw [List.length_take, List.length_take, h.1], fun i b x hb hx => ?_⟩
  have hi : i < n := by
    rcases Nat.lt_or_ge i n with q | q
    · exact q
    · rw [List.getElem?_eq_none (by rw [List.length_take]; omega)] at hb; cases hb
  rw [List.getElem?_take_of_lt hi] at hb hx
  exact h.2 i b x hb hx
theorem Tups.append {bs : List Addr} {gs : List α} (h : Tups H f as es) (h' : Tups H f bs gs) : Tups H f (as ++ bs) (es ++ gs) := by
  refine ⟨by rw [List.length_append, List.length_append, h.1, h'.1], fun i b x hb hx => ?_⟩
  have hl := h.1
  rcases Nat.lt_or_ge i as.length with q | q
  · rw [List.getElem?_append_left q] at hb
    rw [List.getElem?_append_left (by omega)] at hx
    exact h.2 i b x hb hx
  · rw [List.getElem?_append_right q] at hb
    rw [List.getElem?_append_right (by omega), ← hl] at hx
    exact h'.2 _ b x hb hx
theorem Tups.at_ (h : Tups H f as es) {i : Nat} (hi : i < es.length) : ∃ a, as[i]? = some a ∧ H a = some (.tup (f es[i])) := by
  have hl := h.1
  exact ⟨as[i], List.getElem?_eq_getElem (by omega), h.2 i _ _ (List.getElem?_eq_getElem (by omega)) (List.getElem?_eq_getElem hi)⟩
theorem Tups.map {β : Type} {g : β → α} {bs : List β} (h : Tups H f as (bs.map g)) : Tups H (fun b => f (g b)) as bs := by
  refine ⟨by rw [h.1, List.length_map], fun i a b x y => h.2 i a (g b) x (by rw [List.getElem?_map, y]; rfl)⟩
theorem Tups.map' {β : Type} {g : β → α} {bs : List β} (h : Tups H (fun b => f (g b)) as bs) : Tups H f as (bs.map g) := by
  refine ⟨by rw [h.1, List.length_map], fun i a e x y => ?_⟩
  rw [List.getElem?_map] at y
  cases z : bs[i]? with
  | none => rw [z] at y; cases y
  | some b =>
    rw [z] at y
    have y : g b = e := Option.some.inj y
    subst y
    exact h.2 i a b x z
theorem Lst.same (h : Lst f H c es) (s : Same H H') : Lst f H' c es := by
  obtain ⟨as, a, b⟩ := h
  exact ⟨as, s _ _ a, b.same s⟩
theorem Lst.off {ys : List V} (h : Lst f H c es) (hr : H r = some (.lst ys)) (n : c ≠ r) (o : Off r H H') : Lst f H' c es := by
  obtain ⟨as, a, b⟩ := h
  exact ⟨as, o _ _ a n, b.off hr o⟩
end
theorem dp_int {K : PySem.W.Frag} {H : Hp} {i : Int} : Dp K H (.int i) (.int i) := .int i
theorem dpAll_of {K : PySem.W.Frag} {H : Hp} {α : Type} {f : α → List V} {g : α → PyData} (hg : ∀ (a : Addr) (e : α), H a = some (.tup (f e)) → Dp K H (.ref a) (g e)) :
    ∀ (as : List Addr) (es : List α), Tups H f as es → DpAll K H (as.map V.ref) (es.map g)
  | [], [], _ => .nil
  | [], _ :: _, h => by have := h.1; simp at this
  | _ :: _, [], h => by have := h.1; simp at this
  | a :: as, e :: es, h => .cons (hg a e (h.2 0 a e rfl rfl)) (dpAll_of hg as es ⟨by have := h.1; simpa using this, fun i b x hb hx => h.2 (i + 1) b x (by simpa using hb) (by simpa using hx)⟩)
theorem Lst.dp {K : PySem.W.Frag} {H : Hp} {c : Addr} {es : List Ev} (h : Lst evV H c es) : Dp K H (.ref c) (recD es) := by
  obtain ⟨as, a, b⟩ := h
  refine .lst (SqL.of a) (dpAll_of (fun a e ha => ?_) as es b)
  exact .tup (SqT.of ha) (.cons (.int _) (.cons (.int _) (.cons (.str _) .nil)))
theorem Lst.dpO {K : PySem.W.Frag} {H : Hp} {c : Addr} {es : List Ev} (h : Lst stV H c es) : Dp K H (.ref c) (ordD es) := by
  obtain ⟨as, a, b⟩ := h
  refine .lst (SqL.of a) (dpAll_of (fun a e ha => ?_) as es b)
  exact .tup (SqT.of ha) (.cons (.int _) (.cons (.str _) .nil))
theorem dpInts {K : PySem.W.Frag} {H : Hp} : ∀ ns : List Int, DpAll K H (ns.map V.int) (ns.map PyData.int)
  | [] => .nil
  | n :: ns => .cons (.int n) (dpInts ns)
theorem Lst.sql {K : PySem.W.Frag} {α : Type} {f : α → List V} {H : Hp} {c : Addr} {es : List α} (h : Lst f H c es) : ∃ xs : List V, SqL K H c xs ∧ xs.length = es.length := by
  obtain ⟨as, a, b⟩ := h
  exact ⟨_, SqL.of a, by rw [List.length_map]; exact b.1⟩

theorem val_at : ∀ {kvs : List (Key × V)} {i : Nat} {k : Key} {v : V}, (kvs.map (·.1)).Nodup → kvs[i]? = some (k, v) → valV kvs k = some v
  | [], _, _, _, _, h => by simp at h
  | p :: r, 0, k, v, _, h => by
    have e : p = (k, v) := Option.some.inj h
    subst e
    exact valV_pos rfl
  | p :: r, i + 1, k, v, nd, h => by
    have nd' : (p.1 :: r.map (·.1)).Nodup := nd
    obtain ⟨n1, n2⟩ := List.nodup_cons.mp nd'
    have h' : r[i]? = some (k, v) := by simpa using h
    have m : k ∈ r.map (·.1) := List.mem_map.mpr ⟨(k, v), List.mem_of_getElem? h', rfl⟩
    rw [valV_neg (fun e => n1 (e ▸ m))]
    exact val_at n2 h'
theorem downs_append (a b : List (Key × V)) : downs (a ++ b) = downs a ++ downs b := by unfold downs; rw [List.filterMap_append]
theorem downs_take {kvs : List (Key × V)} {i : Nat} {k : Int} {b : Bool} (h : kvs[i]? = some (Sum.inl k, .bl b)) : downs (kvs.take (i + 1)) = if b then downs (kvs.take i) ++ [k] else downs (kvs.take i) := by
  rw [List.take_add_one, h, downs_append]
  cases b <;> simp [downs]
theorem downs_len (kvs : List (Key × V)) : (downs kvs).length ≤ kvs.length := by unfold downs; exact List.length_filterMap_le _ _
end Rm

set_option Elab.async false
set_option linter.all false
set_option maxRecDepth 100000
set_option maxHeartbeats 4000000
namespace Rm
open PySem PySem.Spec PyProof.Rows L2 Gd

theorem Off.new {r p : Addr} {H H1 : Hp} {o : HO} (a : Off r H H1) (n : H p = none) : Off r H (upd H1 p o) := fun b x e ne => by
  rw [upd_ne (ne_of_none e n)]
  exact a b x e ne
theorem Off.at_ {r : Addr} {H H1 : Hp} {o : HO} (a : Off r H H1) : Off r H (upd H1 r o) := a.trans off_upd
theorem Off.sameTrans {r : Addr} {H H1 H2 : Hp} (a : Off r H H1) (b : Same H1 H2) : Off r H H2 := a.trans (Off.of b)
/-- what was free stays free of it: a new address of a later heap is new for the earlier one too -/
theorem Off.free {r p : Addr} {H H1 : Hp} {o : HO} (a : Off r H H1) (hr : H1 r = some o) (n : H1 p = none) : H p = none := by
  cases e : H p with
  | none => rfl
  | some x =>
    have h : p ≠ r := fun z => by rw [z, hr] at n; cases n
    rw [a p x e h] at n
    cases n

theorem getI {ns : List Int} {d : Int} (h0 : 0 ≤ d) (h1 : d < (ns.length : Int)) : ∃ (v : Int), atI (ns.map V.int) d = some (.int v) ∧ ns[d.toNat]? = some v := by
  have hd : d.toNat < ns.length := by omega
  refine ⟨ns[d.toNat], ?_, List.getElem?_eq_getElem hd⟩
  refine at_of (j := d.toNat) (by omega) ?_
  rw [List.getElem?_map, List.getElem?_eq_getElem hd]
  rfl
theorem inv_int (k : Int) : ∀ ns : List Int, inV (.int k) (ns.map V.int) = decide (k ∈ ns)
  | [] => rfl
  | n :: ns => by
    show (eqV (.int n) (.int k) || inV (.int k) (ns.map V.int)) = _
    rw [inv_int k ns]
    have e : eqV (.int n) (.int k) = decide (n = k) := by
      by_cases z : n = k <;> simp [eqV, z]
    rw [e]
    by_cases z : n = k
    · subst z; simp
    · have z' : ¬ k = n := fun q => z q.symm
      simp [z, z']
theorem flat_ints : ∀ ns : List Int, (ns.map V.int).all flatV = true
  | [] => rfl
  | n :: ns => by
    show (flatV (.int n) && (ns.map V.int).all flatV) = true
    rw [flat_ints ns]
    rfl
theorem lay_ints : ∀ ns : List Int, PyData.canLayAll0 (ns.map PyData.int) = true ∧ PyData.depthAll (ns.map PyData.int) = 0
  | [] => ⟨rfl, rfl⟩
  | n :: ns => by
    obtain ⟨a, b⟩ := lay_ints ns
    refine ⟨?_, ?_⟩
    · show (PyData.canLay0 (.int n) && PyData.canLayAll0 (ns.map PyData.int)) = true
      rw [a]
      rfl
    · show max (PyData.depth (.int n)) (PyData.depthAll (ns.map PyData.int)) = 0
      rw [b]
      rfl
theorem shaped_ints (ns : List Int) : SeqAt.shaped (.list (ns.map PyData.int)) = true := by
  obtain ⟨a, b⟩ := lay_ints ns
  show (PyData.canLayAll0 (ns.map PyData.int) && decide (PyData.depthAll (ns.map PyData.int) + 1 ≤ 64)) = true
  rw [a, b]
  rfl
theorem eqv_nil (ds : List PyData) : PyData.eqv (.list ds) (.list []) = ds.isEmpty := by
  cases ds <;> rfl
theorem mem_eraseIdx {ns : List Int} {j : Nat} {k : Int} (nd : ns.Nodup) (h : ns[j]? = some k) (x : Int) : x ∈ ns.eraseIdx j ↔ x ≠ k ∧ x ∈ ns := by
  rw [List.mem_eraseIdx_iff_getElem?]
  constructor
  · rintro ⟨i, hi, e⟩
    refine ⟨fun z => ?_, List.mem_of_getElem? e⟩
    subst z
    exact hi (nd_ix nd e h)
  · rintro ⟨hx, hm⟩
    obtain ⟨i, e⟩ := List.getElem?_of_mem hm
    refine ⟨i, fun z => ?_, e⟩
    subst z
    rw [h] at e
    exact hx (Option.some.inj e).symm
theorem first_ix {ns : List Int} {j : Nat} {k : Int} (nd : ns.Nodup) (h : ns[j]? = some k) : ∀ m : Nat, m < j → ns[m]? ≠ some k := fun m hm e => by
  have := nd_ix nd e h
  omega

/-! ### the keys that are down, as a list -/
structure DownOk (ns : List Int) (es : List Ev) : Prop where
  nd : ns.Nodup
  mem : ∀ k, k ∈ ns ↔ heldB es k = true
theorem DownOk.nil : DownOk [] [] := ⟨List.nodup_nil, fun k => by simp [heldB]⟩
theorem DownOk.down {ns : List Int} {es : List Ev} {t k : Int} (h : DownOk ns es) (n : ¬ k ∈ ns) : DownOk (ns ++ [k]) (es ++ [⟨t, k, true⟩]) := by
  refine ⟨nd_snoc h.nd n, fun x => ?_⟩
  rw [heldB_snoc]
  unfold after
  rw [List.mem_append, List.mem_singleton, h.mem]
  by_cases z : x = k
  · subst z; simp
  · simp [z]
theorem DownOk.up {ns : List Int} {es : List Ev} {t k : Int} {j : Nat} (h : DownOk ns es) (e : ns[j]? = some k) : DownOk (ns.eraseIdx j) (es ++ [⟨t, k, false⟩]) := by
  refine ⟨h.nd.eraseIdx j, fun x => ?_⟩
  rw [heldB_snoc, mem_eraseIdx h.nd e, h.mem]
  unfold after
  by_cases z : x = k
  · subst z; simp
  · simp [z]
theorem DownOk.not {ns : List Int} {es : List Ev} {k : Int} (h : DownOk ns es) (n : ¬ k ∈ ns) : heldB es k = false := by
  cases e : heldB es k with
  | false => rfl
  | true => exact absurd ((h.mem k).mpr e) n
/-- other keys for the same -/
theorem heldB_map {f : Int → Int} (hf : ∀ a b, f a = f b → a = b) : ∀ (es : List Ev) (k : Int), heldB (es.map fun e => ⟨e.t, f e.k, e.d⟩) (f k) = heldB es k := by
  intro es k
  suffices h : ∀ (es : List Ev) (g g' : Int → Bool), (∀ k, g' (f k) = g k) → ∀ k, (es.map fun e => (⟨e.t, f e.k, e.d⟩ : Ev)).foldl after g' (f k) = es.foldl after g k from h es _ _ (fun _ => rfl) k
  intro es
  induction es with
  | nil => intro g g' h k; exact h k
  | cons e es ih =>
    intro g g' h k
    refine ih (after g e) (after g' ⟨e.t, f e.k, e.d⟩) (fun x => ?_) k
    unfold after
    by_cases z : x = e.k
    · subst z; simp
    · have z' : ¬ f x = f e.k := fun q => z (hf _ _ q)
      show (if f x = f e.k then e.d else g' (f x)) = if x = e.k then e.d else g x
      rw [if_neg z, if_neg z', h]
theorem Valid.rekey {f : Int → Int} (hf : ∀ a b, f a = f b → a = b) {es : List Ev} (h : Valid es) (h0 : ∀ e ∈ es, 0 ≤ f e.k) : Valid (es.map fun e => ⟨e.t, f e.k, e.d⟩) := fun i e x => by
  rw [List.getElem?_map] at x
  cases y : es[i]? with
  | none => rw [y] at x; cases x
  | some e' =>
    rw [y] at x
    have x : (⟨e'.t, f e'.k, e'.d⟩ : Ev) = e := Option.some.inj x
    subst x
    obtain ⟨a, b, c⟩ := h i e' y
    refine ⟨h0 e' (List.mem_of_getElem? y), ?_, fun j g hj z => ?_⟩
    · rw [← List.map_take]
      show heldB _ (f e'.k) = !e'.d
      rw [heldB_map hf]
      exact b
    · rw [List.getElem?_map] at z
      cases y2 : es[j]? with
      | none => rw [y2] at z; cases z
      | some g' =>
        rw [y2] at z
        have z : (⟨g'.t, f g'.k, g'.d⟩ : Ev) = g := Option.some.inj z
        subst z
        exact c j g' hj y2
/-- ups behind all for keys that are down -/
theorem Valid.ups {t : Int} : ∀ (ns : List Int) {es : List Ev}, Valid es → ns.Nodup → (∀ k ∈ ns, heldB es k = true ∧ 0 ≤ k) → (∀ e ∈ es, e.t ≤ t) → Valid (es ++ ns.map fun k => ⟨t, k, false⟩)
  | [], es, h, _, _, _ => by simpa using h
  | k :: ns, es, h, nd, hb, ht => by
    obtain ⟨n1, n2⟩ := List.nodup_cons.mp nd
    have h1 : Valid (es ++ [⟨t, k, false⟩]) := h.snoc (hb k List.mem_cons_self).2 (by have := (hb k List.mem_cons_self).1; simpa using this) ht
    have := Valid.ups ns h1 n2 (fun x hx => ⟨by
        rw [heldB_snoc]
        unfold after
        have z : x ≠ k := fun q => n1 (q ▸ hx)
        rw [if_neg z]
        exact (hb x (List.mem_cons_of_mem _ hx)).1, (hb x (List.mem_cons_of_mem _ hx)).2⟩) (fun e he => by
        rcases List.mem_append.mp he with he | he
        · exact ht e he
        · rw [List.mem_singleton.mp he]; exact Int.le_refl _)
    simpa using this
theorem heldB_ups {t : Int} : ∀ (ns : List Int) (es : List Ev) (k : Int), heldB (es ++ ns.map fun k => ⟨t, k, false⟩) k = (heldB es k && !decide (k ∈ ns))
  | [], es, k => by simp
  | n :: ns, es, k => by
    have e : es ++ (n :: ns).map (fun k => (⟨t, k, false⟩ : Ev)) = (es ++ [⟨t, n, false⟩]) ++ ns.map fun k => ⟨t, k, false⟩ := by simp
    rw [e, heldB_ups ns, heldB_snoc]
    unfold after
    by_cases z : k = n
    · subst z; simp
    · have : (k ∈ n :: ns) ↔ k ∈ ns := by simp [z]
      simp [z]
/-- who is down is a key of the record -/
theorem held_mem : ∀ {es : List Ev} {k : Int}, heldB es k = true → ∃ e ∈ es, e.k = k := by
  intro es k
  suffices h : ∀ (es : List Ev) (g : Int → Bool), es.foldl after g k = true → g k = true ∨ ∃ e ∈ es, e.k = k by
    intro z
    rcases h es _ z with q | q
    · cases q
    · exact q
  intro es
  induction es with
  | nil => intro g h; exact .inl h
  | cons e es ih =>
    intro g h
    rcases ih (after g e) h with q | ⟨e', he, hk⟩
    · unfold after at q
      by_cases z : k = e.k
      · exact .inr ⟨e, List.mem_cons_self, z.symm⟩
      · rw [if_neg z] at q
        exact .inl q
    · exact .inr ⟨e', List.mem_cons_of_mem _ he, hk⟩
theorem Valid.mono {es : List Ev} (h : Valid es) : ∀ (i j : Nat) (a b : Ev), i < j → es[i]? = some a → es[j]? = some b → a.t ≤ b.t := fun i j a b hij ha hb => (h j b hb).2.2 i a hij ha
theorem lay_st : ∀ es : List Ev, PyData.canLayAll0 (es.map stD) = true ∧ PyData.depthAll (es.map stD) ≤ 1
  | [] => ⟨rfl, Nat.zero_le _⟩
  | e :: es => by
    obtain ⟨a, b⟩ := lay_st es
    refine ⟨?_, ?_⟩
    · have h : PyData.canLay0 (.str (wayS e.d)) = true := by cases e.d <;> decide +kernel
      show ((true && (PyData.canLay0 (.str (wayS e.d)) && true)) && PyData.canLayAll0 (es.map stD)) = true
      rw [a, h]
      rfl
    · show max (PyData.depth (stD e)) (PyData.depthAll (es.map stD)) ≤ 1
      have : PyData.depth (stD e) = 1 := rfl
      omega
theorem shaped_ord (es : List Ev) : SeqAt.shaped (ordD es) = true := by
  obtain ⟨a, b⟩ := lay_st es
  show (PyData.canLayAll0 (es.map stD) && decide (PyData.depthAll (es.map stD) + 1 ≤ 64)) = true
  rw [a, decide_eq_true (by omega)]
  rfl
theorem shaped_nil : SeqAt.shaped (.list []) = true := rfl
end Rm

set_option Elab.async false
set_option linter.all false
set_option maxRecDepth 100000
set_option maxHeartbeats 4000000
/-! repr of any data; bounds in the heap -/
namespace Gd
open PySem PySem.Spec PyProof.Rows L2
def rRepA (K : PySem.W.Frag) : List V → Hp → VK → Prop := fun xs H Q => ∃ (v : V) (d : PyData), xs = [v] ∧ Dp K H v d ∧
  d.showable = true ∧ d.depth ≤ 50 ∧ d.shown.length ≤ sizeLine ∧ Q (.str d.shown) H
theorem call_repA {X : Cx} {k : Nat} (hg : X.A.guards = some []) (hr : Room k X.A) : CallR X (.builtin "repr") (rRepA X.K) := by
  intro pins s σ H xs us Q I r h
  obtain ⟨v, d, rfl, hd, hs, hdp, hz, q⟩ := h
  cases d with
  | list ds =>
    cases hd with
    | lst h1 h2 => exact call_rep hg hr pins s σ H _ us Q I r ⟨_, _, rfl, .lst h1 h2, hs, hdp, hz, q⟩
  | tuple ds =>
    cases hd with
    | tup h1 h2 => exact call_rep hg hr pins s σ H _ us Q I r ⟨_, _, rfl, .tup h1 h2, hs, hdp, hz, q⟩
  | dict ds => cases hd
  | none =>
    cases hd
    obtain ⟨u, rfl, ru⟩ := vals1 r
    cases ru
    exact PySem.P.repr_of_none ⟨.str _, H, I.tok _, ⟨_, rfl⟩, q⟩
  | bool b =>
    cases hd
    obtain ⟨u, rfl, ru⟩ := vals1 r
    cases ru
    exact PySem.P.repr_of_bool ⟨.str _, H, I.tok _, ⟨_, rfl⟩, q⟩
  | int i =>
    cases hd
    obtain ⟨u, rfl, ⟨t, rfl⟩⟩ := vals1 r
    exact PySem.P.repr_of_int (of_decide_eq_true hs) ⟨.str _, H, I.tok _, ⟨_, rfl⟩, q⟩
  | str z =>
    cases hd
    obtain ⟨u, rfl, ⟨t, rfl⟩⟩ := vals1 r
    exact PySem.P.repr_of_str ⟨.str _, H, I.tok _, ⟨_, rfl⟩, q⟩ hz
end Gd

set_option Elab.async false
set_option linter.all false
set_option maxRecDepth 100000
set_option maxHeartbeats 4000000
/-! data of any kind, dicts too: what it reads as, its repr, its type -/
namespace Gd
open PySem PySem.Spec PyProof.Rows L2
mutual
inductive Dq (K : PySem.W.Frag) (H : Hp) : V → PyData → Prop
  | non : Dq K H .non .none
  | bl (b : Bool) : Dq K H (.bl b) (.bool b)
  | int (i : Int) : Dq K H (.int i) (.int i)
  | str (x : Str) : Dq K H (.str x) (.str x)
  | lst {a : Addr} {xs : List V} {ds : List PyData} : SqL K H a xs → DqAll K H xs ds → Dq K H (.ref a) (.list ds)
  | tup {a : Addr} {xs : List V} {ds : List PyData} : SqT K H a xs → DqAll K H xs ds → Dq K H (.ref a) (.tuple ds)
  | dct {a : Addr} {kvs : List (Key × V)} {ks vs : List PyData} : H a = some (.dK kvs) → DqAll K H (kvs.map fun p => kV p.1) ks → DqAll K H (kvs.map fun p => p.2) vs → Dq K H (.ref a) (.dict (ks.zip vs))
inductive DqAll (K : PySem.W.Frag) (H : Hp) : List V → List PyData → Prop
  | nil : DqAll K H [] []
  | cons {v : V} {vs : List V} {d : PyData} {ds : List PyData} : Dq K H v d → DqAll K H vs ds → DqAll K H (v :: vs) (d :: ds)
end
section
variable {K : PySem.W.Frag} {H H' : Hp}
mutual
theorem Dp.q : ∀ {d : PyData} {v : V}, Dp K H v d → Dq K H v d
  | .none, _, h => by cases h; exact .non
  | .bool b, _, h => by cases h; exact .bl b
  | .int i, _, h => by cases h; exact .int i
  | .str x, _, h => by cases h; exact .str x
  | .list ds, _, h => by
    cases h with
    | lst hs ha => exact .lst hs (DpAll.q ha)
  | .tuple ds, _, h => by
    cases h with
    | tup hs ha => exact .tup hs (DpAll.q ha)
  | .dict _, _, h => by cases h
theorem DpAll.q : ∀ {ds : List PyData} {vs : List V}, DpAll K H vs ds → DqAll K H vs ds
  | [], _, h => by cases h; exact .nil
  | d :: ds, _, h => by
    cases h with
    | cons h1 h2 => exact .cons (Dp.q h1) (DpAll.q h2)
end
theorem SqL.same_ {a : Addr} {xs : List V} (h : SqL K H a xs) (s : ∀ b o, H b = some o → H' b = some o) : SqL K H' a xs := by
  rcases h with (h | ⟨o, h⟩) | h
  · exact .inl (.inl (s _ _ h))
  · exact .inl (.inr ⟨o, s _ _ h⟩)
  · exact .inr h
theorem SqT.same_ {a : Addr} {xs : List V} (h : SqT K H a xs) (s : ∀ b o, H b = some o → H' b = some o) : SqT K H' a xs := by
  rcases h with (h | ⟨o, h⟩) | h
  · exact .inl (.inl (s _ _ h))
  · exact .inl (.inr ⟨o, s _ _ h⟩)
  · exact .inr h
mutual
theorem Dq.same {v : V} {d : PyData} : Dq K H v d → (∀ b o, H b = some o → H' b = some o) → Dq K H' v d
  | .non, _ => .non
  | .bl b, _ => .bl b
  | .int i, _ => .int i
  | .str x, _ => .str x
  | .lst h a, s => .lst (SqL.same_ h s) (DqAll.same a s)
  | .tup h a, s => .tup (SqT.same_ h s) (DqAll.same a s)
  | .dct h a b, s => .dct (s _ _ h) (DqAll.same a s) (DqAll.same b s)
theorem DqAll.same {vs : List V} {ds : List PyData} : DqAll K H vs ds → (∀ b o, H b = some o → H' b = some o) → DqAll K H' vs ds
  | .nil, _ => .nil
  | .cons a b, s => .cons (Dq.same a s) (DqAll.same b s)
end
theorem DqAll.length : ∀ {vs : List V} {ds : List PyData}, DqAll K H vs ds → vs.length = ds.length
  | _, _, .nil => rfl
  | _, _, .cons _ b => congrArg (· + 1) (DqAll.length b)
theorem DqAll.at_ : ∀ {vs : List V} {ds : List PyData} {i : Nat} {v : V}, DqAll K H vs ds → vs[i]? = some v → ∃ d, ds[i]? = some d ∧ Dq K H v d
  | _, _, 0, _, .cons a _, h => ⟨_, rfl, by cases h; exact a⟩
  | _, _, i + 1, _, .cons _ b, h => DqAll.at_ (i := i) b h
  | _, _, _, _, .nil, h => by simp at h
theorem DqAll.get : ∀ {vs : List V} {ds : List PyData} {i : Nat} {d : PyData}, DqAll K H vs ds → ds[i]? = some d → ∃ v, vs[i]? = some v ∧ Dq K H v d
  | _, _, 0, _, .cons a _, h => ⟨_, rfl, by cases h; exact a⟩
  | _, _, i + 1, _, .cons _ b, h => DqAll.get (i := i) b h
  | _, _, _, _, .nil, h => by simp at h
theorem DqAll.append : ∀ {vs : List V} {ds : List PyData} {vs' : List V} {ds' : List PyData}, DqAll K H vs ds → DqAll K H vs' ds' → DqAll K H (vs ++ vs') (ds ++ ds')
  | _, _, _, _, .nil, b => b
  | _, _, _, _, .cons a t, b => .cons a (DqAll.append t b)
theorem DqAll.take : ∀ {vs : List V} {ds : List PyData} (n : Nat), DqAll K H vs ds → DqAll K H (vs.take n) (ds.take n)
  | _, _, 0, _ => .nil
  | _, _, _ + 1, .nil => .nil
  | _, _, n + 1, .cons a t => .cons a (DqAll.take n t)
theorem DqAll.drop : ∀ {vs : List V} {ds : List PyData} (n : Nat), DqAll K H vs ds → DqAll K H (vs.drop n) (ds.drop n)
  | _, _, 0, h => h
  | _, _, _ + 1, .nil => .nil
  | _, _, n + 1, .cons _ t => DqAll.drop n t
theorem DqAll.ints : ∀ (ks : List Int), DqAll K H (ks.map V.int) (ks.map PyData.int)
  | [] => .nil
  | k :: ks => .cons (.int k) (DqAll.ints ks)
/-- the names of types -/
def kindS : PyData → String
  | .none => "NoneType"
  | .bool _ => "bool"
  | .int _ => "int"
  | .str _ => "str"
  | .list _ => "list"
  | .tuple _ => "tuple"
  | .dict _ => "dict"
theorem Dq.ty {v : V} {d : PyData} (h : Dq K H v d) : TyX K H v (.type (kindS d)) := by
  cases h with
  | non => exact .base .non
  | bl b => exact .base (.bl b)
  | int i => exact .base (.int i)
  | str x => exact .base (.str x)
  | lst h _ =>
    rcases h with (h | ⟨o, h⟩) | ⟨o, its, n, h, c, _⟩
    · exact .base (.lst h)
    · exact .base (.frz h)
    · exact .kList h c
  | tup h _ =>
    rcases h with (h | ⟨o, h⟩) | ⟨o, its, n, h, c, _⟩
    · exact .base (.tup h)
    · exact .fTuple h
    · exact .kTuple h c
  | dct h _ _ => exact .base (.dK h)
end
section
variable {X : Cx} {pins : List (Addr × Obj)} {σ : L2.St} {H : Hp} {s : Shared}
theorem pairs_vals {P : Program} {w : World} : ∀ {es : List DictEntry} {qs : List (Key × Value)} {kvs : List (Key × V)}, Pairs (mixKind P w) es qs → KV kvs qs →
    Vals (kvs.map fun p => kV p.1) (es.map (·.key)) ∧ Vals (kvs.map fun p => p.2) (es.map (·.val))
  | _, _, _, .nil, .nil => ⟨.nil, .nil⟩
  | _, _, _, .cons h1 h2 t, .cons ⟨e, r⟩ q => by
    obtain ⟨a, b⟩ := pairs_vals t q
    refine ⟨.cons ?_ a, .cons ?_ b⟩
    · show RelV (kV _) (DictEntry.key _)
      rw [e]
      rcases keyIs_shape h1 with ⟨i, t, e1, e2⟩ | ⟨x, t, e1, e2⟩
      · rw [e1, e2]; exact ⟨t, rfl⟩
      · rw [e1, e2]; exact ⟨t, rfl⟩
    · show RelV _ (DictEntry.val _)
      rw [h2]; exact r
theorem zip_fst {α β : Type} : ∀ {a : List α} {b : List β}, a.length = b.length → (a.zip b).map (·.1) = a
  | [], [], _ => rfl
  | _ :: a, _ :: b, h => congrArg (_ :: ·) (zip_fst (a := a) (b := b) (Nat.succ.inj h))
theorem zip_snd {α β : Type} : ∀ {a : List α} {b : List β}, a.length = b.length → (a.zip b).map (·.2) = b
  | [], [], _ => rfl
  | _ :: a, _ :: b, h => congrArg (_ :: ·) (zip_snd (a := a) (b := b) (Nat.succ.inj h))
/-- the modules' dict stands where it stood -/
def SysAt (base : Heap) : Prop := ∃ o es ep, base.get? sysModules = some o ∧ o.data = .dict es ep
mutual
theorem Dq.reads (I : Inv X pins σ H s) (hsm : SysAt X.base) {v : V} {d : PyData} : Dq X.K H v d → ∀ u, RelV v u → ∃ as, Reads s.heap u d as ∧ sysModules ∉ as
  | .non, _, r => by
    cases r
    exact ⟨_, Reads.none, by simp⟩
  | .bl b, _, r => by
    cases r
    exact ⟨_, Reads.bool b, by simp⟩
  | .int i, _, r => by
    obtain ⟨t, rfl⟩ := r
    exact ⟨_, Reads.int i t, by simp⟩
  | .str x, _, r => by
    obtain ⟨t, rfl⟩ := r
    exact ⟨_, Reads.str x t, by simp⟩
  | .lst (a := a) hs ha, u, r => by
    cases (show u = Value.ref a from r)
    obtain ⟨its, rv, ⟨o, n, ho, hc, _, hd⟩, _⟩ := I.list hs
    obtain ⟨as, hr, hn⟩ := DqAll.reads I hsm ha its rv
    refine ⟨_, Reads.list ho hc hd hr, fun hm => ?_⟩
    rcases List.mem_cons.mp hm with e | hm
    · obtain ⟨o', es, ep, h1, h2⟩ := hsm
      have h3 := I.bk _ _ h1
      rw [e, ho] at h3
      cases h3
      rw [hd] at h2
      cases h2
    · exact hn hm
  | .tup (a := a) hs ha, u, r => by
    cases (show u = Value.ref a from r)
    obtain ⟨its, rv, ⟨o, ho, hc, n, hd⟩, _⟩ := I.tuple hs
    obtain ⟨as, hr, hn⟩ := DqAll.reads I hsm ha its rv
    exact ⟨_, Reads.tuple ho hc hd hr, hn⟩
  | .dct (a := a) (kvs := kvs) hk ha hb, u, r => by
    cases (show u = Value.ref a from r)
    obtain ⟨_, hsys, qs, rel, o, es, ep, ho, hex, hdat, _, hp, _⟩ := dk_of I.hok hk
    obtain ⟨rk, rv⟩ := pairs_vals hp rel
    obtain ⟨as, hr, hn⟩ := DqAll.reads I hsm ha _ rk
    obtain ⟨bs, hr2, hn2⟩ := DqAll.reads I hsm hb _ rv
    have hl : _ = _ := (DqAll.length ha).symm.trans ((List.length_map _).trans ((List.length_map _).symm.trans (DqAll.length hb)))
    refine ⟨_, Reads.dict ho hex.1 hdat (by rw [zip_fst hl]; exact hr) (by rw [zip_snd hl]; exact hr2), fun hm => ?_⟩
    rcases List.mem_append.mp hm with hm | hm
    · rcases List.mem_cons.mp hm with e | hm
      · exact absurd e.symm (by simpa using hsys)
      · exact hn hm
    · exact hn2 hm
theorem DqAll.reads (I : Inv X pins σ H s) (hsm : SysAt X.base) {vs : List V} {ds : List PyData} : DqAll X.K H vs ds → ∀ us, Vals vs us → ∃ as, ReadsAll s.heap us ds as ∧ sysModules ∉ as
  | .nil, _, r => by
    cases r
    exact ⟨_, ReadsAll.nil, by simp⟩
  | .cons h1 h2, _, r => by
    cases r with
    | cons r1 r2 =>
      obtain ⟨as, q1, n1⟩ := Dq.reads I hsm h1 _ r1
      obtain ⟨bs, q2, n2⟩ := DqAll.reads I hsm h2 _ r2
      exact ⟨_, ReadsAll.cons q1 q2, fun hm => (List.mem_append.mp hm).elim n1 n2⟩
end
end
/-- repr(x), x data of any kind -/
def rRepQ (K : PySem.W.Frag) : List V → Hp → VK → Prop := fun xs H Q => ∃ (v : V) (d : PyData), xs = [v] ∧ Dq K H v d ∧
  d.showable = true ∧ d.depth ≤ 50 ∧ d.shown.length ≤ sizeLine ∧ Q (.str d.shown) H
theorem call_repQ {X : Cx} {k : Nat} (hsm : SysAt X.base) (hg : X.A.guards = some []) (hr : Room k X.A) : CallR X (.builtin "repr") (rRepQ X.K) := by
  intro pins s σ H xs us Q I r h
  obtain ⟨v, d, rfl, hd, hs, hdp, hz, q⟩ := h
  obtain ⟨u, rfl, ru⟩ := vals1 r
  have hu := hr.un
  have one : ∀ {a : Addr}, u = .ref a → wpAny (model X.prog X.w) X.A (call (.builtin "repr") [u]) (EP X pins σ Q) X.xe s := fun {a} e => by
    obtain ⟨as, rd, hn⟩ := Dq.reads I hsm hd u ru
    subst e
    exact repr_of_reads' rd hs (fun _ => hn) hg (by omega) (fun _ _ e => e)
      (fun h' t tk hk => ⟨.str d.shown, H, I.kept (t' := tk) hk, ⟨t, rfl⟩, q⟩) hz
  cases hd with
  | non =>
    cases ru
    exact PySem.P.repr_of_none ⟨.str _, H, I.tok _, ⟨_, rfl⟩, q⟩
  | bl b =>
    cases ru
    exact PySem.P.repr_of_bool ⟨.str _, H, I.tok _, ⟨_, rfl⟩, q⟩
  | int i =>
    obtain ⟨t, rfl⟩ := ru
    exact PySem.P.repr_of_int (of_decide_eq_true hs) ⟨.str _, H, I.tok _, ⟨_, rfl⟩, q⟩
  | str z =>
    obtain ⟨t, rfl⟩ := ru
    exact PySem.P.repr_of_str ⟨.str _, H, I.tok _, ⟨_, rfl⟩, q⟩ hz
  | lst _ _ => exact one ru
  | tup _ _ => exact one ru
  | dct _ _ _ => exact one ru
end Gd
namespace Gd
open PySem PySem.Spec PyProof.Rows L2
section
variable {K : PySem.W.Frag} {H H' : Hp}
theorem Dq.tupE {v : V} {d : PyData} (h : Dq K H v d) (e : kindS d = "tuple") : ∃ a xs ds, v = .ref a ∧ d = .tuple ds ∧ SqT K H a xs ∧ DqAll K H xs ds := by
  cases h with
  | tup hs ha => exact ⟨_, _, _, rfl, rfl, hs, ha⟩
  | non => exact absurd e (by decide)
  | bl b => exact absurd e (show ¬ ("bool" : String) = "tuple" by decide)
  | int i => exact absurd e (show ¬ ("int" : String) = "tuple" by decide)
  | str x => exact absurd e (show ¬ ("str" : String) = "tuple" by decide)
  | lst _ _ => exact absurd e (show ¬ ("list" : String) = "tuple" by decide)
  | dct _ _ _ => exact absurd e (show ¬ ("dict" : String) = "tuple" by decide)
theorem Dq.lstE {v : V} {d : PyData} (h : Dq K H v d) (e : kindS d = "list") : ∃ a xs ds, v = .ref a ∧ d = .list ds ∧ SqL K H a xs ∧ DqAll K H xs ds := by
  cases h with
  | lst hs ha => exact ⟨_, _, _, rfl, rfl, hs, ha⟩
  | non => exact absurd e (by decide)
  | bl b => exact absurd e (show ¬ ("bool" : String) = "list" by decide)
  | int i => exact absurd e (show ¬ ("int" : String) = "list" by decide)
  | str x => exact absurd e (show ¬ ("str" : String) = "list" by decide)
  | tup _ _ => exact absurd e (show ¬ ("tuple" : String) = "list" by decide)
  | dct _ _ _ => exact absurd e (show ¬ ("dict" : String) = "list" by decide)
theorem Dq.strE {v : V} {d : PyData} (h : Dq K H v d) (e : kindS d = "str") : ∃ x, v = .str x ∧ d = .str x := by
  cases h with
  | str x => exact ⟨_, rfl, rfl⟩
  | non => exact absurd e (by decide)
  | bl b => exact absurd e (show ¬ ("bool" : String) = "str" by decide)
  | int i => exact absurd e (show ¬ ("int" : String) = "str" by decide)
  | lst _ _ => exact absurd e (show ¬ ("list" : String) = "str" by decide)
  | tup _ _ => exact absurd e (show ¬ ("tuple" : String) = "str" by decide)
  | dct _ _ _ => exact absurd e (show ¬ ("dict" : String) = "str" by decide)
def kinds7 : List String := ["NoneType", "bool", "int", "str", "list", "tuple", "dict"]
theorem kindS_mem (d : PyData) : kindS d ∈ kinds7 := by cases d <;> simp [kindS, kinds7]
theorem kit_tuple (d : PyData) : kitB (kindS d) "tuple" = some (decide (kindS d = "tuple")) := (by decide +kernel : ∀ s ∈ kinds7, kitB s "tuple" = some (decide (s = "tuple"))) _ (kindS_mem d)
theorem kit_list (d : PyData) : kitB (kindS d) "list" = some (decide (kindS d = "list")) := (by decide +kernel : ∀ s ∈ kinds7, kitB s "list" = some (decide (s = "list"))) _ (kindS_mem d)
theorem kit_str (d : PyData) : kitB (kindS d) "str" = some (decide (kindS d = "str")) := (by decide +kernel : ∀ s ∈ kinds7, kitB s "str" = some (decide (s = "str"))) _ (kindS_mem d)
theorem kit_tupT {d : PyData} (h : kindS d = "tuple") : kitB (kindS d) "tuple" = some true := (kit_tuple d).trans (by rw [decide_eq_true h])
theorem kit_tupF {d : PyData} (h : kindS d ≠ "tuple") : kitB (kindS d) "tuple" = some false := (kit_tuple d).trans (by rw [decide_eq_false h])
theorem kit_lstT {d : PyData} (h : kindS d = "list") : kitB (kindS d) "list" = some true := (kit_list d).trans (by rw [decide_eq_true h])
theorem kit_lstF {d : PyData} (h : kindS d ≠ "list") : kitB (kindS d) "list" = some false := (kit_list d).trans (by rw [decide_eq_false h])
theorem kit_strT {d : PyData} (h : kindS d = "str") : kitB (kindS d) "str" = some true := (kit_str d).trans (by rw [decide_eq_true h])
theorem kit_strF {d : PyData} (h : kindS d ≠ "str") : kitB (kindS d) "str" = some false := (kit_str d).trans (by rw [decide_eq_false h])
mutual
theorem Dq.p : ∀ {d : PyData} {v : V}, Dq K H v d → d.hasDict = false → Dp K H v d
  | .none, _, h, _ => by cases h; exact .non
  | .bool b, _, h, _ => by cases h; exact .bl b
  | .int i, _, h, _ => by cases h; exact .int i
  | .str x, _, h, _ => by cases h; exact .str x
  | .list ds, _, h, n => by
    cases h with
    | lst hs ha => exact .lst hs (DqAll.p ha n)
  | .tuple ds, _, h, n => by
    cases h with
    | tup hs ha => exact .tup hs (DqAll.p ha n)
  | .dict _, _, _, n => by cases n
theorem DqAll.p : ∀ {ds : List PyData} {vs : List V}, DqAll K H vs ds → PyData.hasDictAll ds = false → DpAll K H vs ds
  | [], _, h, _ => by cases h; exact .nil
  | d :: ds, _, h, n => by
    cases h with
    | cons h1 h2 =>
      have n' : (d.hasDict || PyData.hasDictAll ds) = false := n
      exact .cons (Dq.p h1 (Bool.or_eq_false_iff.mp n').1) (DqAll.p h2 (Bool.or_eq_false_iff.mp n').2)
end
theorem DqAll.intsV : ∀ {vs : List V} {ks : List Int}, DqAll K H vs (ks.map PyData.int) → vs = ks.map V.int
  | _, [], .nil => rfl
  | _, k :: ks, .cons a b => by
    cases a
    rw [DqAll.intsV b] <;> rfl
end
mutual
/-- no long text in it -/
def szB : PyData → Bool
  | .str c => decide (c.length ≤ 1000)
  | .list ds => szAll ds
  | .tuple ds => szAll ds
  | _ => true
def szAll : List PyData → Bool
  | [] => true
  | d :: ds => szB d && szAll ds
end
theorem szAll_mem : ∀ {ds : List PyData}, szAll ds = true → ∀ d ∈ ds, szB d = true
  | [], _, d, h => by simp at h
  | e :: ds, h, d, hd => by
    have h' : (szB e && szAll ds) = true := h
    rw [Bool.and_eq_true] at h'
    rcases List.mem_cons.mp hd with rfl | hd
    · exact h'.1
    · exact szAll_mem h'.2 d hd
theorem szAll_of : ∀ {ds : List PyData}, (∀ d ∈ ds, szB d = true) → szAll ds = true
  | [], _ => rfl
  | e :: ds, h => by
    show (szB e && szAll ds) = true
    rw [h e List.mem_cons_self, szAll_of fun d hd => h d (List.mem_cons_of_mem _ hd)]
    rfl
end Gd
namespace Gd
open PySem PySem.Spec PyProof.Rows L2
section
variable {K : PySem.W.Frag} {H : Hp} {p : Addr} {ys zs : List V}
theorem SqT.lst_ {a : Addr} {xs : List V} (h : SqT K H a xs) (e : H p = some (.lst ys)) (u : HO) : SqT K (upd H p u) a xs := by
  rcases h with (h | ⟨o, h⟩) | h
  · exact .inl (.inl (by rw [upd_ne (ne_of h e (by intro z; cases z))]; exact h))
  · exact .inl (.inr ⟨o, by rw [upd_ne (ne_of h e (by intro z; cases z))]; exact h⟩)
  · exact .inr h
/-- data without a list at p: what is not a list or a dict -/
theorem DqAll.ints_off {b : Addr} {xs : List V} {ks : List Int} (h : SqT K H b xs) (hd : DqAll K H xs (ks.map PyData.int)) (e : H p = some (.lst ys)) (u : HO) : Dq K (upd H p u) (.ref b) (.tuple (ks.map PyData.int)) := by
  have ex := hd.intsV
  subst ex
  exact .tup (SqT.lst_ h e u) (DqAll.ints ks)
end
end Gd
namespace Gd
open PySem PySem.Spec PyProof.Rows L2
theorem kss_off {K : PySem.W.Frag} {H : Hp} {p : Addr} {ys : List V} (e : H p = some (.lst ys)) (u : HO) : ∀ {vs : List V} {kss : List (List Int)}, DqAll K H vs (kss.map fun ks => PyData.tuple (ks.map PyData.int)) → DqAll K (upd H p u) vs (kss.map fun ks => PyData.tuple (ks.map PyData.int))
  | _, [], .nil => .nil
  | _, _ :: _, .cons (.tup h a) t => .cons (DqAll.ints_off h a e u) (kss_off e u t)
end Gd

set_option Elab.async false
set_option linter.all false
set_option maxRecDepth 100000
set_option maxHeartbeats 4000000
/-! the law's own call, the modules' dict told -/
namespace Gd
open PySem PySem.Spec PyProof.Rows L2
section
variable {P : Program} {w : World} {K : PySem.W.Frag} {mg mb : Str → Option Value} {k : Nat} {fa a : Addr} {fd : FuncData} {x : Str} {sp : Sp} {s₁ : Shared} {vs : List Value} {ns : List Int}
/-- the heap as the caller has it, H what is tracked of it: at most the script -/
theorem top_runS (KX : K.In s₁.heap) (gl : s₁.heap.Ns mainGlobals mg) (bl : s₁.heap.Ns builtinsNs mb) (bb : ∀ y : Str, y ≠ "__name__" → mb y = bootBuiltins y)
    (nol : s₁.heap.NoLimit) (ng : s₁.gens = #[]) (oa : s₁.heap.get? a = some { cls := .type "list", data := .seq vs.toArray }) (hr : Room k callerA)
    (ss : SysAt s₁.heap) (F : ∀ base : Heap, K.In base → base.Ns mainGlobals mg → SysAt base → FnG P w K mg base k fa fd [x] sp)
    (bt : ∀ (s : Shared) (u : Value), BindsTo s fd ⟨[u], []⟩ [(x, u)]) {H : Hp} (only : Only H) (hok : HOk P w H s₁.heap)
    (at_a : ∀ b, H b ≠ none → b = a ∧ K.lookup a = none) (h : sp [.ref a] H (fun v _ => v = .bl true) E0) :
    codeAny (model P w) callerA (.call (.ref fa) ⟨[.ref a], []⟩)
      (fun r s' => r = .ok (.ret (.bool true)) ∧ OldK s₁.heap s'.heap ∧ s'.os = s₁.os ∧ AllBare s'.gens) s₁ := by
  have free : ∀ {b : Addr} {o : Obj}, s₁.heap.get? b = some o → (b = a → ∃ es ep, o.data = .dict es ep) → H b = none := by
    intro b o e d
    rcases Classical.em (H b = none) with z | z
    · exact z
    · obtain ⟨rfl, _⟩ := at_a b z
      obtain ⟨es, ep, hd⟩ := d rfl
      rw [oa] at e
      cases e
      cases hd
  have nsAt : ∀ {b : Addr} {m : Str → Option Value}, s₁.heap.Ns b m → (hidT s₁.heap H).Ns b m := by
    intro b m z
    obtain ⟨o, es, ep, e, d, r⟩ := z
    exact ⟨o, es, ep, hidT_get e (free e fun _ => ⟨es, ep, d⟩), d, r⟩
  have KB : K.In (hidT s₁.heap H) := by
    intro b o e
    refine hidT_get (KX b o e) ?_
    rcases Classical.em (H b = none) with z | z
    · exact z
    · obtain ⟨rfl, q⟩ := at_a b z
      rw [q] at e
      cases e
  obtain ⟨ml, l1, l2⟩ := nol
  have M : Mod K mg (hidT s₁.heap H) := ⟨KB, nsAt gl, ⟨mb, nsAt bl, bb⟩, ⟨ml, nsAt l1, l2⟩⟩
  have E : Env0 P w K mg (hidT s₁.heap H) callerA [] s₁ H := by
    refine ⟨rfl, M, fun b o e => of_hidT e, Nat.le_of_eq (hidT_size _ _), True.intro, fun b hb => ?_, hok, .of_eq ng⟩
    exact nomatch (show b ∈ ([] : List Addr) from hb)
  refine codeAny_mono ((F _ KB (nsAt gl) (by
    obtain ⟨o, es, ep, e, d⟩ := ss
    exact ⟨o, es, ep, hidT_get e (free e fun _ => ⟨es, ep, d⟩), d⟩)).go callerA [] s₁ H ⟨[.ref a], []⟩ [.ref a] [.ref a] _ rfl hr E (bt s₁ (.ref a)) (.cons rfl .nil) h) ?_
  intro r s' z
  match r, z with
  | .ok .next, z => exact False.elim z
  | .ok .brk, z => exact False.elim z
  | .ok .cont, z => exact False.elim z
  | .error _, z => exact False.elim z
  | .ok (.ret u), ⟨v, H', os, bare, un, hok', rv, q⟩ =>
    have q : v = .bl true := q
    subst q
    have ru : u = Value.bool true := rv
    subst ru
    refine ⟨rfl, OldK.of_keep fun b o e => ?_, os, bare⟩
    rcases only b with n | ⟨ob, xs, n⟩
    · exact un.keep b o e n (fun m => nomatch (show b ∈ ([] : List Addr) from m)) (fun m => nomatch m)
    · have f1 := hok b _ n
      have f2 := hok' b _ (un.frzs b ob _ n)
      have g1 : s₁.heap.get? b = some ob := f1.1
      have g2 : s'.heap.get? b = some ob := f2.1
      rw [e] at g1
      cases g1
      exact g2
theorem law_callGS (KX : K.In s₁.heap) (gl : s₁.heap.Ns mainGlobals mg) (bl : s₁.heap.Ns builtinsNs mb) (bb : ∀ y : Str, y ≠ "__name__" → mb y = bootBuiltins y)
    (nol : s₁.heap.NoLimit) (ng : s₁.gens = #[]) (oa : s₁.heap.get? a = some { cls := .type "list", data := .seq vs.toArray }) (hi : IntsAre vs ns) (hl : ns.length ≤ sizeLine) (hr : Room k callerA)
    (ss : SysAt s₁.heap) (F : ∀ base : Heap, K.In base → base.Ns mainGlobals mg → SysAt base → FnG P w K mg base k fa fd [x] sp)
    (bt : ∀ (s : Shared) (u : Value), BindsTo s fd ⟨[u], []⟩ [(x, u)])
    (hsp : ∀ H : Hp, Only H → SqL K H a (ns.map V.int) → sp [.ref a] H (fun v _ => v = .bl true) E0) :
    codeAny (model P w) callerA (.call (.ref fa) ⟨[.ref a], []⟩)
      (fun r s' => r = .ok (.ret (.bool true)) ∧ OldK s₁.heap s'.heap ∧ s'.os = s₁.os ∧ AllBare s'.gens) s₁ := by
  have rv := vals_ints hi
  have lenV := hi.length
  by_cases hk : K.lookup a = none
  · let H : Hp := fun b => if b = a then some (.frz { cls := .type "list", data := .seq vs.toArray } (.lst (ns.map V.int))) else none
    have Ha : H a = some (.frz { cls := .type "list", data := .seq vs.toArray } (.lst (ns.map V.int))) := if_pos rfl
    have Hn : ∀ {b : Addr}, b ≠ a → H b = none := fun h => if_neg h
    have only : Only H := by
      intro b
      by_cases e : b = a
      · subst e; exact .inr ⟨_, _, Ha⟩
      · exact .inl (Hn e)
    refine top_runS KX gl bl bb nol ng oa hr ss F bt (H := H) only ?_ ?_ (hsp H only (.inl (.inr ⟨_, Ha⟩)))
    · intro b u z
      by_cases e : b = a
      · subst e
        rw [Ha] at z
        cases z
        exact ⟨oa, by rw [List.length_map]; exact hl, vs, _, rv, oa⟩
      · rw [Hn e] at z; cases z
    · intro b z
      by_cases e : b = a
      · exact ⟨e, hk⟩
      · exact absurd (Hn e) z
  · obtain ⟨o, ho⟩ := Option.ne_none_iff_exists'.mp hk
    have e := KX a o ho
    rw [oa] at e
    cases e
    have only : Only (fun _ => none) := fun _ => .inl rfl
    refine top_runS KX gl bl bb nol ng oa hr ss F bt (H := fun _ => none) only (fun b u z => nomatch z) (fun b z => absurd rfl z) (hsp _ only (.inr ?_))
    exact ⟨_, vs.toArray, _, ho, rfl, rfl, rfl, by rw [List.size_toArray, lenV]; exact hl, by simpa using rv⟩
end
/-- what k_head leaves, from the promise of the law's def -/
theorem walkGS {l : PySem.W.OpenLaw} {n k : Nat} {q : Program} {loose : List Str} {XP : (Str → Option Value) → Heap → Prop} {YP : World → Heap → Prop} {d : DefRec} {K : Params → PySem.W.Frag} {sp : PySem.W.Frag → Sp} {x : Str}
    (hi0 : importsNone q = true) (hn : l.most = some n) (hn2 : n ≤ sizeLine) (hdf : d.params.defaults = []) (hr : Room k callerA)
    (hY : ∀ (w : World) (h : Heap), YP w h → (K w.params).In h)
    (F : ∀ (w : World) (mg : Str → Option Value) (fa : Addr) (h : Heap), (K w.params).In h → h.Ns mainGlobals mg → mg d.name = some (.ref fa) →
      ∃ fd : FuncData, (∀ (s : Shared) (u : Value), BindsTo s fd ⟨[u], []⟩ [(x, u)]) ∧
        ∀ base : Heap, (K w.params).In base → base.Ns mainGlobals mg → SysAt base → FnG l.prog w (K w.params) mg base k fa fd [x] (sp (K w.params)))
    (hsp : ∀ (K : PySem.W.Frag) (H : Hp) (a : Addr) (ns : List Int), ns.length ≤ n → SqL K H a (ns.map V.int) →
      sp K [.ref a] H (fun v _ => v = .bl true) E0) :
    PySem.W.WalkO q loose XP YP l.row.toRowW d [] (fun f vs => PySem.call f vs) := by
  refine Att.attach_call hn hdf ?_
  intro w s₀ s₁ mg mb fa o pm cd doc a vs ns G Y ho hd hcd hmg oa hi hlen ng
  have KX := hY w _ Y
  obtain ⟨fd, bt, hF⟩ := F w mg fa _ KX G.T.g hmg
  exact law_callGS KX G.T.g G.T.b G.T.builtins G.T.nolimit ng oa hi (Nat.le_trans hlen hn2) hr (by
    obtain ⟨mm, ⟨o, es, ep, e, d, _⟩, _⟩ := (G.T.seer hi0).mods
    exact ⟨o, es, ep, e, d⟩) hF bt (fun H _ hS => hsp _ H a ns hlen hS)
end Gd

set_option Elab.async false
set_option linter.all false
set_option maxRecDepth 100000
set_option maxHeartbeats 4000000
/-! own exceptions whose __init__ calls super().__init__(f'..') and keeps the index -/
namespace PySem
namespace Oxi
open PySem.W PySem.Calls PyProof.Rows PySem.HandSPX
def iA (p1 p2 : Pos) : Arguments := { posonlyargs := [], args := [{ arg := "self", annotation := none, pos := p1 }, { arg := "index", annotation := none, pos := p2 }], vararg := none, kwonlyargs := [], kw_defaults := [], kwarg := none, defaults := [] }
def iB (pre : Str) (q : Nat → Pos) : List Stmt :=
  [.Expr (.Call (.Attribute (.Call (.Name "super" (q 0)) [] [] (q 1)) "__init__" (q 2)) [.JoinedStr [.Constant (.str pre) 0 (q 3), .FormattedValue (.Name "index" (q 4)) (-1) none (q 5)] (q 6)] [] (q 7)) (q 8),
   .Assign [.Attribute (.Name "self" (q 9)) "index" (q 10)] (.Name "index" (q 11)) (q 12)]
def iS : Scope := { kind := .function, names := [(PySem.Str.ofString "self", .local), (PySem.Str.ofString "index", .local), (PySem.Str.ofString "__class__", .free), (PySem.Str.ofString "super", .globalImplicit)], isGenerator := false, isCoroutine := false, more := [] }
/-- what the written part says of the class at C, and of its __init__, at fI -/
structure ExcTxt (prog : Program) (K : Frag) (x : Str) (C fI : Addr) : Prop where
  cls : ∃ nm q N bs bm sn sub ab col dd k0 k1 k2 k3 k5, K.lookup C = some (excClassObj nm q C N bs bm true sn sub ab col dd k0 k1 k2 k3 k5 "ValueError.__new__") ∧ refsVE bm = true
  sa : findIn K (.ref C) "__setattr__" = some (some (.builtin "object.__setattr__"))
  noN : findIn K (.ref C) "index" = some none
  iC : findIn K (.ref C) "__init__" = some (some (.ref fI))
  tC : typeIn K (.ref fI) = some (.type "function")
  kC : keepIn K (.ref C) = true
  exC : subIn K (.ref C) (.type "BaseException") = some true
  veC : subIn K (.ref C) (.type "ValueError") = some true
  ccC : mroIn K C (.ref C) = some true
  tyC : typeIn K (.ref C) = some (.type "type")
  su : ks_superIn K C C "__init__" = some (some (.builtin "ValueError.__init__"))
  any : nsIn K cStatics "thirdparty.any" = some none
  ei : excInitIn K C [.type "ValueError", .type "Exception", .type "BaseException", .type "object"] "ValueError.__new__" = true
  sup : nsIn K mainGlobals "super" = some none
  top : (prog.main.scope.names.lookup ("super" : Str)).isSome = false
  fn : ∃ (oc : Value) (od : Option Addr) (doc pm : Value) (an : Option Addr) (cda cc : Addr) (ct : Value) (osl : Array (Option Value)) (p1 p2 : Pos) (pre qual : Str) (q : Nat → Pos),
    pre.length ≤ 1000 ∧ ((q 2).endLine == (q 7).line) = true ∧
    K.lookup fI = some ⟨oc, od, .func (ksFn "__init__" qual (iA p1 p2) (iB pre q) iS .none .none doc pm an (.ref cda) ct cc), osl⟩ ∧ codeIn K (.ref cda) qual = true ∧
    (∃ cl cld csl, K.lookup cc = some ⟨cl, cld, .cell (some (.ref C)), csl⟩) ∧
    (∃ ccl cdd vs ccs file tf, K.lookup cda = some ⟨ccl, cdd, .fields vs, ccs⟩ ∧ vs[2]? = some (.str file tf) ∧ ((prog.main.file : Str) == file) = true)
/-- an index: none or a number -/
def Ix (v : Value) : Prop := v = .none ∨ ∃ (i : Int) (t : Tok), v = .int i t ∧ i.natAbs < 2 ^ 200
theorem ldC {M : Model} {s : Shared} {env : Env} {L : Addr} {m : Str → Option Value} {x : Str} {pos : Pos} {v : Value} {Q : Value → Shared → Prop} {A : Around} {E : Value → Shared → Prop} (he : env.locals = L) (hn : s.heap.Ns L m) (hv : m x = some v) (h : Q v s)
    (hk : env.scope.kind = .function := by rfl) (hl : env.kindOf x = some .local := by rfl) (hd : (x == ("__debug__" : Str)) = false := by decide) :
    wpAny M A (eval (.Name x pos) env) Q E s := by
  subst he
  exact wpAny_Name (wpAny_loadName_local hk hl hn hv h) hd
structure InitEnd (h h' : Heap) (x C dx t1 : Addr) (v : Value) : Prop where
  keep : ∀ b o, b ≠ x → h.get? b = some o → h'.get? b = some o
  obj : h'.get? x = some { cls := .ref C, dict := some dx, data := .fields #[.ref t1, .none, .none, .none, .bool false, .none] }
  dbig : h.objs.size ≤ dx
  dne : dx ≠ x
  ns : h'.Ns1 dx (fun y => if y = "index" then some v else none)
section
variable {prog : Program} {w : World} {A : Around} {E : Value → Shared → Prop} {R : Result → Shared → Prop} {s : Shared} {K : Frag} {mg mb : Str → Option Value} {C fI : Addr} {xn : Str}
theorem ini_ok (T : ExcTxt prog K xn C fI) {x t0 : Addr} {v : Value} (hv : Ix v) (X : K.In s.heap) (G : s.heap.Ns mainGlobals mg) (GN : ∀ y, nsIn K mainGlobals y = some none → mg y = none) (B : s.heap.Ns builtinsNs mb) (hB : ∀ y : Str, y ≠ "__name__" → mb y = bootBuiltins y)
    (hlim : s.heap.NoLimit) (hx : s.heap.get? x = some (excO C t0)) (hnx : K.lookup x = none) (hroom : A.depth < recursionLimit)
    (hq : ∀ h' tk dx t1, InitEnd s.heap h' x C dx t1 v → R (.ok (.ret .none)) { s with heap := h', toks := tk }) :
    codeAny (model prog w) A (.call (.ref fI) ⟨[.ref x, v], []⟩) R s := by
  obtain ⟨oc, od, doc, pm, an, cda, cc, ct, osl, p1, p2, pre, qual, q, hpre, hline, ho, hcd, ⟨cl, cld, csl, hcell⟩, ⟨ccl, cdd, vs, ccs, file, tf, hcda, hvs, hfile⟩⟩ := T.fn
  obtain ⟨nm, qn, N, bs, bm, sn, sub, ab, col, dd, k0, k1, k2, k3, k5, hC, hbm⟩ := T.cls
  have hcl : clsIn K C = some { name := nm, bases := bs, mro := .ref C :: bm, ns := N, qualname := qn, hasDict := true, slotNames := sn, subclasses := sub, abstract := ab, collection := col, hasDel := false } := by unfold clsIn; rw [hC] <;> rfl
  refine ks_codeAny_call_defAt (fd := ksFn "__init__" qual (iA p1 p2) (iB pre q) iS .none .none doc pm an (.ref cda) ct cc) (body := iB pre q) (binds := [("self", .ref x), ("index", v)]) hroom (X _ _ ho) rfl hlim (codeRec_of X hcd) rfl (BindsTo.of_eq (by first | rfl | with_unfolding_all rfl)) (show ∀ y ∈ iS.names, y.2 ≠ .cell by decide) (fun y hy => ?_) (fun h₁ hns hk => ?_) rfl rfl rfl
  · rcases List.mem_cons.mp hy with rfl | hy
    · rfl
    · rw [List.mem_singleton.mp hy]; rfl
  have X1 : K.In h₁ := X.keeps hk
  have hx1 := hk _ _ hx
  have hxL : x ≠ s.heap.objs.size := Nat.ne_of_lt (Heap.lt_size hx)
  -- the ground: without the exception
  have FG : Fr (hideAll s.heap [x]) s.heap.objs.size h₁ (fun y => [((Str.ofString "self"), Value.ref x), (Str.ofString "index", v)].reverse.lookup y) := ⟨hns, fun b o e => hk b o (of_hideAll _ e), Nat.le_of_eq (hideAll_size _ _)⟩
  have N0 : News (hideAll s.heap [x]) s.heap.objs.size h₁ [(x, excObj C t0 none .none)] := fun p hp => by
    rw [List.mem_singleton.mp hp]
    exact ⟨hx1, hxL, hideAll_none _ List.mem_cons_self⟩
  have XG : K.In (hideAll s.heap [x]) := fun b o e => hideAll_get _ (X b o e) (fun hm => by
    rw [List.mem_singleton.mp hm, hnx] at e
    cases e)
  show wpAt (model prog w) (A.deeper (ksEnv qual iS s.heap.objs.size fI (.ref cda) cc)) (.func (iB pre q) (ksEnv qual iS s.heap.objs.size fI (.ref cda) cc)) (execs (iB pre q) (ksEnv qual iS s.heap.objs.size fI (.ref cda) cc)) _ _ _
  refine ks_wpAt_execs_cons (ks_wpAt_Expr_any (ks_wpAt_MethodCall (pl := do return (← importBound (.Call (.Name "super" (q 0)) [] [] (q 1)) (ksEnv qual iS s.heap.objs.size fI (.ref cda) cc)).getD true) ?_ ?he))
  case he =>
    rw [arm_eval_Call]
    unfold methodCall methodCallPos
    simp only [hline, Bool.or_true, if_true]
    rfl
  -- super()
  have G1 : h₁.Ns mainGlobals mg := G.keeps hk
  have B1 : h₁.Ns builtinsNs mb := B.keeps hk
  have IA1 : InstAt h₁ x (excObj C t0 none .none) C none := ⟨hx1, rfl, rfl, trivial⟩
  obtain ⟨oD, hD1, hD2⟩ : ∃ oD, h₁.get? C = some oD ∧ ∃ cd, oD.data = .cls cd := ⟨_, X1 _ _ hC, _, rfl⟩
  obtain ⟨cdD, hD2⟩ := hD2
  refine ks_wpAt_super_base (env := ksEnv qual iS s.heap.objs.size fI (.ref cda) cc) rfl rfl (by decide) rfl (X1 _ _ ho) rfl rfl rfl (X1 _ _ hcda) rfl hvs hfile T.top ?_
  refine ks_loadName_global rfl rfl (loadGlobal_builtin (env := ksEnv qual iS s.heap.objs.size fI (.ref cda) cc) G1 (GN _ T.sup) B1 ((hB _ (by decide +kernel)).trans (by decide +kernel : bootBuiltins "super" = some (.type "super"))) ⟨rfl, ?_⟩)
  refine wpAny_loadName_free rfl rfl rfl ⟨_, X1 _ _ hcell, rfl⟩ ?_
  refine wpAny_loadName_local rfl rfl FG.ns rfl ?_
  refine ks_wpAny_isType_cls hD1 hD2 ⟨rfl, ?_⟩
  refine ks_wpAny_call_super hD1 hD2 IA1.at_ IA1.cls (fun c e => by cases e) (looks_mroIn X1 T.ccC) (fun h' e k => ?_)
  obtain ⟨F2, N2, l2⟩ := ks_newsPush (s := ⟨h₁, s.gens, s.drawn, s.toks + 2, s.os⟩) FG N0 rfl e k
  have IA2 : InstAt h' x (excObj C t0 none .none) C none := ⟨k _ _ hx1, rfl, rfl, trivial⟩
  refine kxs_method kxs_ValueError F2 XG N2 List.mem_cons_self IA2 T.any T.su T.veC (by decide) (fun u h2 F3 N3 l3 => ?_)
  refine kxs_callWith1 N3 List.mem_cons_self ?_
  refine spliced_more ?_
  refine wpAny_JoinedStr ?_
  -- after the text: any text will do
  have call : ∀ (y : Str) (tk : Tok) (n : Nat), wpAny (model prog w) (A.deeper (ksEnv qual iS s.heap.objs.size fI (.ref cda) cc)) (call (.ref u) [.str y tk]) (fun _ s' => wpAt (model prog w) (A.deeper (ksEnv qual iS s.heap.objs.size fI (.ref cda) cc)) (.func (iB pre q) (ksEnv qual iS s.heap.objs.size fI (.ref cda) cc)) (execs [.Assign [.Attribute (.Name "self" (q 9)) "index" (q 10)] (.Name "index" (q 11)) (q 12)] (ksEnv qual iS s.heap.objs.size fI (.ref cda) cc))
      (fun f s' => R (.ok (.ret (match f with | .ret v => v | _ => .none))) s') (fun e s' => wpAny (model prog w) (A.deeper (ksEnv qual iS s.heap.objs.size fI (.ref cda) cc)) (leaving (ksEnv qual iS s.heap.objs.size fI (.ref cda) cc) e) (fun _ s'' => R (.error e) s'') (fun e' s'' => R (.error e') s'') s') s') (fun e s' => wpAny (model prog w) (A.deeper (ksEnv qual iS s.heap.objs.size fI (.ref cda) cc)) (leaving (ksEnv qual iS s.heap.objs.size fI (.ref cda) cc) e) (fun _ s'' => R (.error e) s'') (fun e' s'' => R (.error e') s'') s') ⟨h2, s.gens, s.drawn, n, s.os⟩ := fun y tk n => by
    have U : UpdF x (excObj C t0 none .none) [(u, kxs_mw "ValueError.__init__" x), (h₁.objs.size, ks_superObj C x C), (x, excObj C t0 none .none)] (fun o' => [(u, kxs_mw "ValueError.__init__" x), (h₁.objs.size, ks_superObj C x C), (x, o')]) :=
      .tail (Nat.ne_of_gt (l3 (x, excObj C t0 none .none) (List.mem_cons_of_mem _ List.mem_cons_self))) (.tail (Nat.ne_of_gt (l2 (x, excObj C t0 none .none) List.mem_cons_self)) (.head (fun p hp => (nomatch hp))))
    refine kxs_call (s := ⟨h2, s.gens, s.drawn, n, s.os⟩) F3 XG N3 PySem.F.excBase_ValueError T.ei List.mem_cons_self U (by rw [sizeLine_eq]; show 1 ≤ _; decide) (fun t1 h3 F4 N4 l4 => ?_)
    have hx4 : h3.get? x = some (excObj C t1 none .none) := (N4 (x, excObj C t1 none .none) (List.mem_cons_of_mem _ (List.mem_cons_of_mem _ (List.mem_cons_of_mem _ List.mem_cons_self)))).1
    have X4 : K.In h3 := XG.keeps F4.keep
    refine wpAt_of_wpAny (wpAny_execs_cons (plainObj_wpAny_Assign_Attribute ?_))
    refine ldC rfl F4.ns rfl (ldC rfl F4.ns rfl ?_)
    refine set_plain X4 (ox := excObj C t1 none .none) (od := none) ⟨hx4, rfl, rfl, trivial⟩ T.sa ?_
    refine exc_osa X4 hx4 hcl (show refsVE (.ref C :: bm) = true from hbm) rfl T.noN (fun h4 tk4 dx k4 dn dne hx5 hn5 => ?_)
    show wpAny _ _ (execs _ _) _ _ _
    have zz : s.heap.objs.size < h3.objs.size := F4.ns.lt
    exact wpAny_execs_nil (hq h4 tk4 dx t1 ⟨fun b o hb e => k4 b o hb (F4.keep b o (hideAll_get _ e (fun hm => hb (List.mem_singleton.mp hm)))), hx5, Nat.le_of_lt (Nat.lt_of_lt_of_le zz dn), dne, hn5⟩)
  have z0 : (Str.empty ++ pre).length = pre.length := by rw [strLen_append]; exact Nat.zero_add _
  refine (show wpAny _ _ (eval (.Constant (.str pre) 0 (q 3)) _) _ _ _ from wpAny_Constant_str ⟨pre, _, rfl, by rw [z0, sizeLine_eq]; omega, ?_⟩)
  refine (show wpAny _ _ (eval (.FormattedValue (.Name "index" (q 4)) (-1) none (q 5)) _) _ _ _ from wpAny_FormattedValue_plain (ldC rfl F3.ns rfl ?_))
  have fin : ∀ (y : Str) (s' : Shared), y.length ≤ 1000 → s'.heap = h2 → s'.gens = s.gens → s'.drawn = s.drawn → s'.os = s.os → True := fun _ _ _ _ _ _ _ => trivial
  rcases hv with rfl | ⟨i, tk, rfl, hi⟩
  · refine wpAny_formatField_none ⟨"None", _, rfl, by rw [strLen_append, z0, sizeLine_eq]; show _ + 4 ≤ _; omega, ?_⟩
    exact ⟨by rw [strLen_append, z0, sizeLine_eq]; show _ + 4 ≤ _; omega, spliced_none ⟨kxs_at N3 List.mem_cons_self, call _ _ _⟩⟩
  · have hl : (toString i : Str).length ≤ 210 := (Rm.fit_int hi).ln
    have hlog : i.natAbs.log2 < 1920 := by
      have := PySem.Flt.log2_lt_of (n := i.natAbs) (k := 200) (by decide) hi
      omega
    refine wpAny_formatField_int hlog ⟨toString i, _, rfl, by rw [strLen_append, z0, sizeLine_eq]; omega, ?_⟩
    exact ⟨by rw [strLen_append, z0, sizeLine_eq]; omega, spliced_none ⟨kxs_at N3 List.mem_cons_self, call _ _ _⟩⟩
theorem one_size (v : Value) : [v].length ≤ sizeLine := by
  rw [sizeLine_eq]
  exact (by decide : 1 ≤ 16777216)
/-- a made exception -/
structure OwnMade (h h' : Heap) (e C d : Addr) (v : Value) : Prop where
  keep : ∀ b o, h.get? b = some o → h'.get? b = some o
  new : h.objs.size ≤ e
  obj : ∃ oe vs, h'.get? e = some oe ∧ oe.cls = .ref C ∧ oe.dict = some d ∧ oe.data = .fields vs ∧ vs[1]? = some .none
  dbig : h.objs.size ≤ d
  dne : d ≠ e
  ns : h'.Ns1 d (fun y => if y = "index" then some v else none)
theorem made (T : ExcTxt prog K xn C fI) {v : Value} (hv : Ix v) (X : K.In s.heap) (G : s.heap.Ns mainGlobals mg) (GN : ∀ y, nsIn K mainGlobals y = some none → mg y = none) (B : s.heap.Ns builtinsNs mb) (hB : ∀ y : Str, y ≠ "__name__" → mb y = bootBuiltins y) (hlim : s.heap.NoLimit) (hroom : A.depth + 1 < recursionLimit)
    (hq : ∀ h' tk e d, OwnMade s.heap h' e C d v → R (.ok (.ret (.ref e))) { s with heap := h', toks := tk }) :
    codeAny (model prog w) A (.call (.ref C) ⟨[v], []⟩) R s := by
  obtain ⟨nm, q, N, bs, bm, sn, sub, ab, col, dd, k0, k1, k2, k3, k5, hC, hbm⟩ := T.cls
  obtain ⟨hp, g, dr, tk, os⟩ := s
  have k : ∀ b o, hp.get? b = some o → ((hp.push (kdv_tup [v])).push (excO C hp.objs.size)).get? b = some o := fun b o e => Heap.get?_push_of_some _ (Heap.get?_push_of_some _ e)
  have hget : ((hp.push (kdv_tup [v])).push (excO C hp.objs.size)).get? (hp.objs.size + 1) = some (excO C hp.objs.size) := by heap_get
  have hnx : K.lookup (hp.objs.size + 1) = none := by
    cases e : K.lookup (hp.objs.size + 1) with
    | none => rfl
    | some o =>
      have z : hp.get? (hp.objs.size + 1) = some o := X _ _ e
      exact absurd (Nat.lt_of_succ_lt (Heap.lt_size z)) (Nat.lt_irrefl _)
  refine call_own PySem.F.excBase_ValueError (fun X => refsVE_contains X bm hbm) (X _ _ hC) (looks_findIn X T.iC) (fun self => bind_fn X self T.tC) (one_size v) ?_
  refine ini_ok (s := ⟨(hp.push (kdv_tup [v])).push (excO C hp.objs.size), g, dr, tk, os⟩) T hv (X.keeps k) (G.keeps k) GN (B.keeps k) hB (hlim.keeps k) hget hnx ?_ fun h' tk' dx t1 M => ?_
  · show A.depth + 1 < recursionLimit
    exact hroom
  · obtain ⟨k', hx, dn, dne, hns⟩ := M
    have old : ∀ b o, hp.get? b = some o → h'.get? b = some o := fun b o e => k' b o (Nat.ne_of_lt (Nat.lt_succ_of_lt (Heap.lt_size e))) (k b o e)
    have z : hp.objs.size + 1 + 1 ≤ dx := by
      first
        | (simpa only [Heap.size_push] using dn)
        | exact dn
        | (have q := dn; rw [Heap.size_push, Heap.size_push] at q; exact q)
    exact ⟨rfl, hq h' tk' (hp.objs.size + 1) dx ⟨old, Nat.le_succ _, ⟨_, _, hx, rfl, rfl, rfl, rfl⟩, Nat.le_trans (Nat.le_trans (Nat.le_succ _) (Nat.le_succ _)) z, dne, hns⟩⟩
end
end Oxi
end PySem
namespace L2
open PySem PySem.Spec PyProof.Rows
theorem relO_ix {v : V} {v' : Value} (r : RelV v v') (f : Str) : RelO (List.lookup f [(("index" : Str), v)]) (if f = "index" then some v' else none) := by
  by_cases hw : f = "index"
  · subst hw
    rw [if_pos rfl]
    have q : List.lookup ("index" : Str) [(("index" : Str), v)] = some v := by simp [List.lookup]
    rw [q]
    exact r
  · rw [if_neg hw]
    have qw : (f == ("index" : Str)) = false := by simpa using hw
    have q2 : List.lookup f [(("index" : Str), v)] = none := by simp [List.lookup, qw]
    rw [q2]
    trivial
/-- an index, as a value of the layer -/
def IxV (v : V) : Prop := v = .non ∨ ∃ i : Int, v = .int i ∧ i.natAbs < 2 ^ 200
theorem IxV.rel {v : V} {u : Value} (h : IxV v) (r : RelV v u) : PySem.Oxi.Ix u := by
  rcases h with rfl | ⟨i, rfl, hi⟩
  · exact .inl r
  · obtain ⟨t, rfl⟩ := r
    exact .inr ⟨i, t, rfl, hi⟩
section
variable {X : Cx} {C fI : Addr} {xn : Str}
/-- InvalidX(e) -/
def tMkX (C : Addr) (ta : TA) : St → Hp → XK → Prop := fun σ H Q => ta σ H fun vs H1 => ∃ v, vs = [v] ∧ IxV v ∧ ∀ d, H1 d = none → Q (.ref C) (some d) (upd H1 d (.xd [(("index" : Str), v)]))
theorem pmk_x {a : Expr} {ta : TA} {p pos : Pos} {k : Nat} (T : PySem.Oxi.ExcTxt X.prog X.K xn C fI) (hm : X.mg xn = some (.ref C)) (hr : Room k X.A) (ha : PA X [a] ta) (hg : Gl X xn) (hd : (xn == ("__debug__" : Str)) = false := by decide)
    (he : starEach (a :: []) X.env = (false, eval a X.env) :: starEach [] X.env := by rfl) (hpl : (backTo pos (starEach [] X.env)).any (·.1) = false := by rfl) :
    PMk X (.Call (.Name xn p) [a] [] pos) (tMkX C ta) := by
  intro pins s σ H Q I h
  refine wpAny_Call_Name_kw (ld_glob I hg hm ?_ hd)
  refine PySem.W.callWith_K (h₀ := X.base) I.ok.mod.kin T.kC (thn (ha.run pos pins s σ H _ I h) fun us s1 hh => ?_) he hpl
  obtain ⟨vs, H1, I1, r1, v, ev, hix, q1⟩ := hh
  subst ev
  refine ⟨I1.kIn, ?_⟩
  cases r1 with
  | cons rv rn =>
    rename_i v' us'
    cases rn
    show wpAny _ _ (call (.ref C) [v']) _ _ _
    have hlim := I1.nolimit
    have kb : ∀ b o, X.base.get? b = some o → s1.heap.get? b = some o := fun b o e => (I1.bs b o e).1
    have G := I1.ok.mod.glob.keeps kb
    obtain ⟨mb, B0, hB⟩ := I1.ok.mod.blt
    have B := B0.keeps kb
    have kin := I1.kIn
    have GN : ∀ y, PySem.W.nsIn X.K mainGlobals y = some none → X.mg y = none := fun y z => PySem.W.mg_none_of I1.ok.mod.kin I1.ok.mod.glob z
    obtain ⟨hp, g, dr, tk, os⟩ := s1
    refine wpAny_call (PySem.Oxi.made T (hix.rel rv) kin G GN B hB hlim (by have := hr.dp; omega) fun h' tk' e d M => ?_)
    show MkP X pins σ Q (.ref e) ⟨h', g, dr, tk', os⟩
    obtain ⟨oe, fv, hoe, hc, hdd, hdat, h1⟩ := M.obj
    have hns := M.ns
    obtain ⟨G', g1, g2⟩ := restrict h' fun b => decide (b ≠ e)
    have gk : ∀ b, b ≠ e → G'.get? b = h'.get? b := fun b hb => g1 b (decide_eq_true hb)
    have ge : G'.get? e = none := g2 e (by simp)
    have old : ∀ b o, hp.get? b = some o → G'.get? b = some o := fun b o q => (gk b (Nat.ne_of_lt (Nat.lt_of_lt_of_le (Heap.lt_size q) M.new))).trans (M.keep b o q)
    have ob : ObjOk X.prog X.w (upd H1 d (.xd [(("index" : Str), v)])) G' d (.xd [(("index" : Str), v)]) :=
      ⟨_, hns.at (fun o q => (gk d M.dne).trans q), fun f => relO_ix rv f⟩
    have J : Inv X pins σ (upd H1 d (.xd [(("index" : Str), v)])) ⟨G', g, dr, tk', os⟩ := I1.laid (t' := tk') old M.dbig ob
    refine ⟨e, oe, fv, ⟨G', g, dr, tk', os⟩, _, .ref C, some d, rfl, J, fun b o q => ?_, ge, hoe, ⟨hc, hdd⟩, hdat, h1, ?_, rfl, I1.bare, raises_own T.exC T.tyC, q1 d (I1.hok.fresh M.dbig)⟩
    · by_cases hb : b = e
      · have q' : G'.get? b = some o := q
        rw [hb, ge] at q'; cases q'
      · exact (gk b hb).symm.trans q
    · rw [upd_ne (Ne.symm M.dne)]
      exact I1.hok.fresh M.new
/-- raise InvalidX(e) -/
def tRaiseX (C : Addr) (W : WX) (ta : TA) : TS := fun _ σ H => tMkX C ta σ H fun cls d H' => W cls d σ H'
theorem ps_raiseX {a : Expr} {ta : TA} {W : WX} {p pos pos2 : Pos} {k : Nat} (hc : X.calm = true) (T : PySem.Oxi.ExcTxt X.prog X.K xn C fI) (hm : X.mg xn = some (.ref C)) (hr : Room k X.A) (tk : Takes X W) (ha : PA X [a] ta) (hg : Gl X xn) (hd : (xn == ("__debug__" : Str)) = false := by decide)
    (he : starEach (a :: []) X.env = (false, eval a X.env) :: starEach [] X.env := by rfl) (hpl : (backTo pos (starEach [] X.env)).any (·.1) = false := by rfl) :
    PS X (.Raise (some (.Call (.Name xn p) [a] [] pos)) none pos2) (tRaiseX C W ta) := ps_raise hc tk (pmk_x T hm hr ha hg hd he hpl)
end
end L2

set_option Elab.async false
set_option linter.all false
set_option maxRecDepth 100000
set_option maxHeartbeats 4000000
/-! defs that may raise own exceptions, in the layer where no display is being shown -/
namespace Gd
open PySem PySem.Spec PyProof.Rows L2
structure FnGX (P : Program) (w : World) (K : PySem.W.Frag) (mg : Str → Option Value) (base : Heap)
    (k : Nat) (f : Addr) (fd : FuncData) (ps : List Str) (sp : Sp) : Prop where
  len : ∀ vs H Q E, sp vs H Q E → vs.length = ps.length
  go : ∀ (A : Around) (outer : List Env) (s : Shared) (H : Hp) (args : Args) (us : List Value) (vs : List V) (Q : VK) (E : XK),
    A.guards = some [] → Room k A → Env0 P w K mg base A outer s H → BindsTo s fd args (ps.zip us) →
    Vals vs us → sp vs H Q E →
    codeAny (model P w) A (.call (.ref f) args) (CR (CX P w) outer P w H s Q E) s
section
variable {P : Program} {w : World} {K : PySem.W.Frag} {mg : Str → Option Value} {base : Heap}
theorem fnGX {x qual : Str} {st : Stmt} {f : Addr} {fd : FuncData} {N ps : List Str} {k : Nat} {sp : Sp}
    (F : Fun K x qual st f fd) (S : FnScope N ps (defScope st))
    (len : ∀ vs H Q E, sp vs H Q E → vs.length = ps.length)
    (hb : ∀ (cdv : Value) (A : Around) (outer : List Env) (s : Shared) (H : Hp) (vs : List V) (Q : VK) (E : XK),
      A.guards = some [] → Room k (A.deeper (envOfC qual (defScope st) s.heap.objs.size f cdv)) → sp vs H Q E →
      ∃ t, PSs (cxOf (CX P w) P w K mg base N qual (defScope st) f cdv A outer s H E) (defBody st) t ∧
        t { nx := fun _ H' => Q .non H', rt := Q } (start N vs) H) :
    FnGX P w K mg base (k + 1) f fd ps sp := by
  obtain ⟨oc, od, kV, doc, pm, an, cdv, ct, osl, rfl, lk, hcd⟩ := F.ex
  refine ⟨len, fun A outer s H args us vs Q E hg hr e0 bt rv hsp => ?_⟩
  have kin : K.In s.heap := e0.mod.kin.keeps (fun b o e => (e0.bs b o e).1)
  have nol : s.heap.NoLimit := e0.mod.nolimit.keeps (fun b o e => (e0.bs b o e).1)
  have pk : ((ps.zip us).all fun y => (defScope st).names.lookup y.1 == some NameKind.local ||
      (defScope st).names.lookup y.1 == some NameKind.cell) = true := by
    rw [List.all_eq_true]
    rintro ⟨n, v⟩ hm
    have hp := S.par n (List.of_mem_zip hm).1
    rcases hp with e | e <;> simp [e]
  refine Att.call_fn kin nol lk hcd hr.depth bt pk (fun s1 ic => ?_) S.co S.gen S.kind
  obtain ⟨t, ht, hq⟩ := hb cdv A outer s H vs Q E hg (hr.deeper _) hsp
  have J := inv_start (CX := CX P w) (E := E) (P := P) (w := w) (mg := mg) (base := base) S hr.hd e0 (len _ _ _ _ hsp) rv ic
  refine wpAny_mono (ht.run [] s1 (start N vs) H _ J hq) (fun fl s' sp' => ?_) (fun e s' z => z)
  match fl, sp' with
  | .next, ⟨σ', H', L, q⟩ => exact ⟨.non, H', L.os, L.bare, L.base, L.hok, rfl, q⟩
  | .ret u, ⟨v, σ', H', L, rr, q⟩ => exact ⟨v, H', L.os, L.bare, L.base, L.hok, rr, q⟩
  | .brk, ⟨_, _, _, q⟩ => exact False.elim q
  | .cont, ⟨_, _, _, q⟩ => exact False.elim q
end
/-- a def that may be called by its name, and may raise -/
structure ClX (P : Program) (w : World) (K : PySem.W.Frag) (mg : Str → Option Value) (base : Heap) (k : Nat) (x : Str) (sp : Sp) : Prop where
  ex : ∃ (f : Addr) (fd : FuncData) (ps : List Str), FnGX P w K mg base k f fd ps sp ∧ mg x = some (.ref f) ∧
    PySem.W.keepIn K (.ref f) = true ∧ Binds K fd ps []
section
variable {P : Program} {w : World} {K : PySem.W.Frag} {mg : Str → Option Value} {base : Heap}
theorem clGX {x : Str} {st : Stmt} {N ps : List Str} {k : Nat} {sp : Sp} (a : At K mg x st ps) (S : FnScope N ps (defScope st))
    (len : ∀ vs H Q E, sp vs H Q E → vs.length = ps.length)
    (hb : ∀ (f : Addr) (cdv : Value) (A : Around) (outer : List Env) (s : Shared) (H : Hp) (vs : List V) (Q : VK) (E : XK),
      A.guards = some [] → Room k (A.deeper (envOfC x (defScope st) s.heap.objs.size f cdv)) → sp vs H Q E →
      ∃ t, PSs (cxOf (CX P w) P w K mg base N x (defScope st) f cdv A outer s H E) (defBody st) t ∧
        t { nx := fun _ H' => Q .non H', rt := Q } (start N vs) H) : ClX P w K mg base (k + 1) x sp := by
  obtain ⟨f, fd, F, hm, b⟩ := a.ex
  exact ⟨f, fd, ps, fnGX F S len (hb f), hm, F.kp, b⟩
end
section
variable {X : Cx} {k j : Nat} {x : Str} {sp : Sp} {p pos : Pos} {e : Expr} {es : List Expr} {t : TA} {E : XK}
theorem run_clX {f : Addr} {fd : FuncData} {ps : List Str} {pins : List (Addr × Obj)} {σ : L2.St} {H : Hp} {s : Shared} {Q : VK} {us : List Value} {vs : List V}
    (F : FnGX X.prog X.w X.K X.mg X.base k f fd ps sp) (hg : X.A.guards = some []) (hr : Room k X.A) (b : Binds X.K fd ps []) (hx : Passes (CX X.prog X.w) X E)
    (I : Inv X pins σ H s) (rv : Vals vs us) (h : sp vs H Q E) : wpAny (model X.prog X.w) X.A (call (.ref f) us) (EP X pins σ Q) X.xe s := by
  have hl : us.length = ps.length := rv.length.symm.trans (F.len _ _ _ _ h)
  have bt := b s us I.kIn (by simpa using hl)
  rw [List.append_nil] at bt
  refine wpAny_call (codeAny_mono (F.go X.A X.stack s H ⟨us, []⟩ us vs Q E hg hr I.env0 bt rv h) (fun r s' hq => ?_))
  match r, hq with
  | .ok (.ret u), hq => exact I.after hq
  | .ok .next, hq => exact False.elim hq
  | .ok .brk, hq => exact False.elim hq
  | .ok .cont, hq => exact False.elim hq
  | .error e, hq => exact hx pins σ H s e s' I hq
/-- f(e, ..), that may raise -/
theorem pe_clX (c : ClX X.prog X.w X.K X.mg X.base k x sp) (hg : X.A.guards = some []) (hr : Room j X.A) (hk : k ≤ j) (gl : Gl X x) (hx : Passes (CX X.prog X.w) X E) (ha : PA X (e :: es) t)
    (hd : (x == ("__debug__" : Str)) = false := by decide)
    (he : starEach (e :: es) X.env = (false, eval e X.env) :: starEach es X.env := by rfl)
    (hp : (backTo pos (starEach es X.env)).any (·.1) = false := by rfl) :
    PE X (.Call (.Name x p) (e :: es) [] pos) (tCall sp [] E t) := by
  obtain ⟨f, fd, ps, F, hm, kp, b⟩ := c.ex
  refine ⟨fun pins s σ H Q I h => wpAny_Call_Name_kw (ld_glob I gl hm (PySem.W.callWith_K (h₀ := X.base) I.ok.mod.kin kp ?_ he hp) hd)⟩
  refine thn (ha.run pos pins s σ H _ I h) (fun us s1 z => ?_)
  obtain ⟨vs, H1, I1, rv, q⟩ := z
  exact ⟨I1.kIn, run_clX F hg (hr.mono hk) b hx I1 rv (by simpa using q)⟩
/-- a def that raises nothing here, called where nothing is raised -/
theorem ClX.calm {P : Program} {w : World} {K : PySem.W.Frag} {mg : Str → Option Value} {base : Heap} (c : ClX P w K mg base k x sp) : ∃ (f : Addr) (fd : FuncData) (ps : List Str), FnG P w K mg base k f fd ps (fun vs H Q E => sp vs H Q E0) ∧ mg x = some (.ref f) ∧ PySem.W.keepIn K (.ref f) = true ∧ Binds K fd ps [] := by
  obtain ⟨f, fd, ps, F, hm, kp, b⟩ := c.ex
  refine ⟨f, fd, ps, ⟨fun vs H Q E h => F.len vs H Q E0 h, fun A outer s H args us vs Q hg hr e0 bt rv hsp => ?_⟩, hm, kp, b⟩
  refine codeAny_mono (F.go A outer s H args us vs Q E0 hg hr e0 bt rv hsp) fun r s' hq => ?_
  match r, hq with
  | .ok (.ret u), hq => exact hq
  | .ok .next, hq => exact False.elim hq
  | .ok .brk, hq => exact False.elim hq
  | .ok .cont, hq => exact False.elim hq
  | .error e, hq =>
    obtain ⟨a, B, H', cls, d, _, _, _, _, _, _, _, z⟩ := (show CX P w outer H s E0 e s' from hq)
    exact z.elim
theorem ClX.toCl {P : Program} {w : World} {K : PySem.W.Frag} {mg : Str → Option Value} {base : Heap} (c : ClX P w K mg base k x sp) : Cl P w K mg base k x (fun vs H Q _ => sp vs H Q E0) := ⟨c.calm⟩
end
section
variable {X : Cx} {k j : Nat} {x : Str} {sp : Sp} {p pos : Pos} {e : Expr} {es : List Expr} {t : TA} {E : L2.St → XK}
/-- f(e, ..), that may raise: what is wished then may speak of the state -/
def tCallX (sp : Sp) (E : L2.St → XK) (t : TA) : TE := fun σ H Q => t σ H fun vs H' => sp vs H' Q (E σ)
theorem pe_clXs (c : ClX X.prog X.w X.K X.mg X.base k x sp) (hg : X.A.guards = some []) (hr : Room j X.A) (hk : k ≤ j) (gl : Gl X x)
    (hx : ∀ (pins : List (Addr × Obj)) (σ : L2.St) (H : Hp) (s : Shared) (e : Value) (s' : Shared), Inv X pins σ H s → CX X.prog X.w X.stack H s (E σ) e s' → X.xe e s') (ha : PA X (e :: es) t)
    (hd : (x == ("__debug__" : Str)) = false := by decide)
    (he : starEach (e :: es) X.env = (false, eval e X.env) :: starEach es X.env := by rfl)
    (hp : (backTo pos (starEach es X.env)).any (·.1) = false := by rfl) :
    PE X (.Call (.Name x p) (e :: es) [] pos) (tCallX sp E t) := by
  obtain ⟨f, fd, ps, F, hm, kp, b⟩ := c.ex
  refine ⟨fun pins s σ H Q I h => wpAny_Call_Name_kw (ld_glob I gl hm (PySem.W.callWith_K (h₀ := X.base) I.ok.mod.kin kp ?_ he hp) hd)⟩
  refine thn (ha.run pos pins s σ H _ I h) (fun us s1 z => ?_)
  obtain ⟨vs, H1, I1, rv, q⟩ := z
  refine ⟨I1.kIn, ?_⟩
  have hl : us.length = ps.length := rv.length.symm.trans (F.len _ _ _ _ q)
  have bt := b s1 us I1.kIn (by simpa using hl)
  rw [List.append_nil] at bt
  refine wpAny_call (codeAny_mono (F.go X.A X.stack s1 H1 ⟨us, []⟩ us vs Q (E σ) hg (hr.mono hk) I1.env0 bt rv q) (fun r s' hq => ?_))
  match r, hq with
  | .ok (.ret u), hq => exact I1.after hq
  | .ok .next, hq => exact False.elim hq
  | .ok .brk, hq => exact False.elim hq
  | .ok .cont, hq => exact False.elim hq
  | .error e, hq => exact hx pins σ H1 s1 e s' I1 hq
end
theorem takes_no {X : Cx} : Takes X (fun _ _ _ _ => False) := fun _ _ ⟨_, _, _, _, _, _, _, _, _, _, _, _, _, _, _, _, w⟩ => w.elim
end Gd

set_option Elab.async false
set_option linter.all false
set_option maxRecDepth 100000
set_option maxHeartbeats 4000000
/-! defs with defaults that may raise own exceptions, called with fewer arguments -/
namespace Gd
open PySem PySem.Spec PyProof.Rows L2
structure ClXD (P : Program) (w : World) (K : PySem.W.Frag) (mg : Str → Option Value) (base : Heap) (k : Nat) (x : Str) (sp : Sp) (dvs : List V) : Prop where
  ex : ∃ (f : Addr) (fd : FuncData) (ps : List Str) (ds : List Value), FnGX P w K mg base k f fd ps sp ∧ mg x = some (.ref f) ∧ PySem.W.keepIn K (.ref f) = true ∧ Binds K fd ps ds ∧ Vals dvs ds
section
variable {P : Program} {w : World} {K : PySem.W.Frag} {mg : Str → Option Value} {base : Heap}
theorem clGXD {x : Str} {st : Stmt} {N ps : List Str} {k : Nat} {sp : Sp} {ds : List Value} {dvs : List V} (a : AtX K mg x st ps ds) (vd : Vals dvs ds) (S : FnScope N ps (defScope st))
    (len : ∀ vs H Q E, sp vs H Q E → vs.length = ps.length)
    (hb : ∀ (f : Addr) (cdv : Value) (A : Around) (outer : List Env) (s : Shared) (H : Hp) (vs : List V) (Q : VK) (E : XK),
      A.guards = some [] → Room k (A.deeper (envOfC x (defScope st) s.heap.objs.size f cdv)) → sp vs H Q E →
      ∃ t, PSs (cxOf (CX P w) P w K mg base N x (defScope st) f cdv A outer s H E) (defBody st) t ∧
        t { nx := fun _ H' => Q .non H', rt := Q } (start N vs) H) : ClXD P w K mg base (k + 1) x sp dvs := by
  obtain ⟨f, oc, od, dV, kV, doc, pm, an, cdv, ct, osl, lk, hcd, kp, hm, bd⟩ := a.ex
  refine ⟨f, _, ps, ds, ⟨len, fun A outer s H args us vs Q E hg hr e0 bt rv hsp => ?_⟩, hm, kp, bd, vd⟩
  have kin : K.In s.heap := e0.mod.kin.keeps (fun b o e => (e0.bs b o e).1)
  have nol : s.heap.NoLimit := e0.mod.nolimit.keeps (fun b o e => (e0.bs b o e).1)
  have pk : ((ps.zip us).all fun y => (defScope st).names.lookup y.1 == some NameKind.local ||
      (defScope st).names.lookup y.1 == some NameKind.cell) = true := by
    rw [List.all_eq_true]
    rintro ⟨n, v⟩ hm
    have hp := S.par n (List.of_mem_zip hm).1
    rcases hp with e | e <;> simp [e]
  refine Att.call_fn kin nol lk hcd hr.depth bt pk (fun s1 ic => ?_) S.co S.gen S.kind
  obtain ⟨t, ht, hq⟩ := hb f cdv A outer s H vs Q E hg (hr.deeper _) hsp
  have J := inv_start (CX := CX P w) (E := E) (P := P) (w := w) (mg := mg) (base := base) S hr.hd e0 (len _ _ _ _ hsp) rv ic
  refine wpAny_mono (ht.run [] s1 (start N vs) H _ J hq) (fun fl s' sp' => ?_) (fun e s' z => z)
  match fl, sp' with
  | .next, ⟨σ', H', L, q⟩ => exact ⟨.non, H', L.os, L.bare, L.base, L.hok, rfl, q⟩
  | .ret u, ⟨v, σ', H', L, rr, q⟩ => exact ⟨v, H', L.os, L.bare, L.base, L.hok, rr, q⟩
  | .brk, ⟨_, _, _, q⟩ => exact False.elim q
  | .cont, ⟨_, _, _, q⟩ => exact False.elim q
end
section
variable {X : Cx} {k j : Nat} {x : Str} {sp : Sp} {p pos : Pos} {e : Expr} {es : List Expr} {t : TA} {E : L2.St → XK} {dvs : List V}
/-- f(e, ..), that may raise, some arguments left out: what is wished then may speak of the state -/
def tCallXD (sp : Sp) (dvs : List V) (E : L2.St → XK) (t : TA) : TE := fun σ H Q => t σ H fun vs H' => sp (vs ++ dvs) H' Q (E σ)
theorem pe_clXDs (c : ClXD X.prog X.w X.K X.mg X.base k x sp dvs) (hg : X.A.guards = some []) (hr : Room j X.A) (hk : k ≤ j) (gl : Gl X x)
    (hx : ∀ (pins : List (Addr × Obj)) (σ : L2.St) (H : Hp) (s : Shared) (e : Value) (s' : Shared), Inv X pins σ H s → CX X.prog X.w X.stack H s (E σ) e s' → X.xe e s') (ha : PA X (e :: es) t)
    (hd : (x == ("__debug__" : Str)) = false := by decide)
    (he : starEach (e :: es) X.env = (false, eval e X.env) :: starEach es X.env := by rfl)
    (hp : (backTo pos (starEach es X.env)).any (·.1) = false := by rfl) :
    PE X (.Call (.Name x p) (e :: es) [] pos) (tCallXD sp dvs E t) := by
  obtain ⟨f, fd, ps, ds, F, hm, kp, b, vd⟩ := c.ex
  refine ⟨fun pins s σ H Q I h => wpAny_Call_Name_kw (ld_glob I gl hm (PySem.W.callWith_K (h₀ := X.base) I.ok.mod.kin kp ?_ he hp) hd)⟩
  refine thn (ha.run pos pins s σ H _ I h) (fun us s1 z => ?_)
  obtain ⟨vs, H1, I1, rv, q⟩ := z
  refine ⟨I1.kIn, ?_⟩
  have ra := vals_append rv vd
  have hl : (us ++ ds).length = ps.length := ra.length.symm.trans (F.len _ _ _ _ q)
  have bt := b s1 us I1.kIn hl
  refine wpAny_call (codeAny_mono (F.go X.A X.stack s1 H1 ⟨us, []⟩ (us ++ ds) (vs ++ dvs) Q (E σ) hg (hr.mono hk) I1.env0 bt ra q) (fun r s' hq => ?_))
  match r, hq with
  | .ok (.ret u), hq => exact I1.after hq
  | .ok .next, hq => exact False.elim hq
  | .ok .brk, hq => exact False.elim hq
  | .ok .cont, hq => exact False.elim hq
  | .error e, hq => exact hx pins σ H1 s1 e s' I1 hq
end
end Gd

set_option Elab.async false
set_option linter.all false
set_option maxRecDepth 100000
set_option maxHeartbeats 4000000
/-! a heap without what is being filled -/
namespace Gd
open PySem PySem.Spec PyProof.Rows L2 Rm
section
variable {H H' : Hp}
def wo (S : List Addr) (H : Hp) : Hp := fun b => if b ∈ S then none else H b
theorem same_wo {S : List Addr} (s : Same H H') (n : ∀ M ∈ S, H M = none) : Same H (wo S H') := fun b o h => by
  unfold wo
  rw [if_neg (fun z => by rw [n b z] at h; cases h)]
  exact s b o h
theorem wo_same {S : List Addr} (s : Same H H') : Same (wo S H) (wo S H') := fun b o h => by
  unfold wo at h ⊢
  split at h
  · cases h
  · rename_i z
    rw [if_neg z]; exact s b o h
theorem wo_upd {S : List Addr} {M : Addr} {o : HO} (m : M ∈ S) : Same (wo S H) (wo S (upd H M o)) := fun b x h => by
  unfold wo at h ⊢
  split at h
  · cases h
  · rename_i z
    rw [if_neg z, upd_ne (fun e => z (by rw [e]; exact m))]; exact h
theorem wo_all {S : List Addr} : Same (wo S H) H := fun b x h => by
  unfold wo at h
  split at h
  · cases h
  · exact h
theorem wo_at {S : List Addr} {p : Addr} {o : HO} (h : H p = some o) (n : ∀ M ∈ S, p ≠ M) : wo S H p = some o := by
  unfold wo
  rw [if_neg (fun z => n p z rfl)]; exact h
theorem wo_less {S : List Addr} {M : Addr} : Same (wo (M :: S) H) (wo S H) := fun b x h => by
  unfold wo at h ⊢
  split at h
  · cases h
  · rename_i z
    rw [if_neg (fun e => z (List.mem_cons_of_mem _ e))]; exact h
theorem wo_new {S : List Addr} {p : Addr} (h : ∀ M ∈ S, ∃ o, H M = some o) (n : H p = none) : ∀ M ∈ S, p ≠ M := fun M hM e => by
  obtain ⟨o, ho⟩ := h M hM
  rw [← e, n] at ho
  cases ho
theorem wo_add {S : List Addr} {M : Addr} (s : Same H H') (n : H M = none) : Same (wo S H) (wo (M :: S) H') := fun b o h => by
  unfold wo at h ⊢
  split at h
  · cases h
  · rename_i z
    rw [if_neg (fun e => (List.mem_cons.mp e).elim (fun e => by rw [e, n] at h; cases h) z)]
    exact s b o h
theorem wo_off {r : Addr} (o : Rm.Off r H H') : Same (wo [r] H) (wo [r] H') := fun b x h => by
  unfold wo at h ⊢
  split at h
  · cases h
  · rename_i z
    rw [if_neg z]
    exact o b x h fun e => z (by rw [e]; exact List.mem_singleton.mpr rfl)
def Has (H : Hp) (S : List Addr) : Prop := ∀ X ∈ S, ∃ o, H X = some o
theorem Has.same {S : List Addr} (h : Has H S) (s : Same H H') : Has H' S := fun X hX => by
  obtain ⟨o, ho⟩ := h X hX
  exact ⟨o, s _ _ ho⟩
theorem Has.cons {S : List Addr} {M : Addr} {o : HO} (a : H M = some o) (h : Has H S) : Has H (M :: S) := fun X hX => by
  rcases List.mem_cons.mp hX with rfl | hX
  · exact ⟨o, a⟩
  · exact h X hX
theorem Has.one {M : Addr} {o : HO} (a : H M = some o) : Has H [M] := Has.cons a (fun X hX => by simp at hX)
theorem nw1 {n : Nat} (h : 2 ≤ n) : ¬ (HT.sIx n 0 none = 0 ∧ HT.sIx n n (some 1) = n) := fun z => by
  have := z.2
  rw [show (1 : Int) = ((1 : Nat) : Int) from rfl, HT.sIx_nat] at this
  omega
theorem nw2 {n : Nat} (h : 2 ≤ n) : ¬ (HT.sIx n 0 (some 1) = 0 ∧ HT.sIx n n none = n) := fun z => by
  have := z.1
  rw [show (1 : Int) = ((1 : Nat) : Int) from rfl, HT.sIx_nat] at this
  omega
theorem sfree {p : Addr} (s : Same H H') (n : H' p = none) : H p = none := by
  cases h : H p with
  | none => rfl
  | some o => rw [s _ _ h] at n; cases n
theorem log_ok {i : Int} (h : i.natAbs < 2 ^ 200) : i.natAbs.log2 < 1920 := by
  by_cases z : i.natAbs = 0
  · rw [z]; decide
  · exact (Nat.log2_lt z).mpr (Nat.lt_of_lt_of_le h (Nat.pow_le_pow_right (by decide) (by decide)))
end
end Gd

set_option Elab.async false
set_option linter.all false
set_option maxRecDepth 100000
set_option maxHeartbeats 4000000
namespace K05
open PySem PySem.Spec PyProof.Rows L2 Gd Rm
def topS (i : Nat) : Stmt := PySem.Challenge.pw_holdtap_k05_records_recognized.main.body.getD i (.Pass ⟨0, 0, 0, 0⟩)
abbrev s_is_an_integer : Stmt := topS 5
abbrev n_is_an_integer : List Str := ["value"]
theorem sc_is_an_integer : FnScope n_is_an_integer ["value"] (defScope s_is_an_integer) := ⟨rfl, rfl, rfl, by decide +kernel, rfl, by decide +kernel, by decide +kernel⟩
-- 0 value
abbrev s_is_record : Stmt := topS 8
abbrev n_is_record : List Str := ["value"]
theorem sc_is_record : FnScope n_is_record ["value"] (defScope s_is_record) := ⟨rfl, rfl, rfl, by decide +kernel, rfl, by decide +kernel, by decide +kernel⟩
-- 0 value
abbrev s_is_order : Stmt := topS 9
abbrev n_is_order : List Str := ["value"]
theorem sc_is_order : FnScope n_is_order ["value"] (defScope s_is_order) := ⟨rfl, rfl, rfl, by decide +kernel, rfl, by decide +kernel, by decide +kernel⟩
-- 0 value
abbrev s_check_record : Stmt := topS 10
abbrev n_check_record : List Str := ["value", "many", "held", "index", "event"]
theorem sc_check_record : FnScope n_check_record ["value", "many"] (defScope s_check_record) := ⟨rfl, rfl, rfl, by decide +kernel, rfl, by decide +kernel, by decide +kernel⟩
-- 0 value, 1 many, 2 held, 3 index, 4 event
abbrev s_check_order : Stmt := topS 11
abbrev n_check_order : List Str := ["value", "many", "held", "index", "step"]
theorem sc_check_order : FnScope n_check_order ["value", "many"] (defScope s_check_order) := ⟨rfl, rfl, rfl, by decide +kernel, rfl, by decide +kernel, by decide +kernel⟩
-- 0 value, 1 many, 2 held, 3 index, 4 step
abbrev s_is_short_list : Stmt := topS 12
abbrev n_is_short_list : List Str := ["value"]
theorem sc_is_short_list : FnScope n_is_short_list ["value"] (defScope s_is_short_list) := ⟨rfl, rfl, rfl, by decide +kernel, rfl, by decide +kernel, by decide +kernel⟩
-- 0 value
abbrev s_is_event : Stmt := topS 13
abbrev n_is_event : List Str := ["value", "tick", "key", "way"]
theorem sc_is_event : FnScope n_is_event ["value"] (defScope s_is_event) := ⟨rfl, rfl, rfl, by decide +kernel, rfl, by decide +kernel, by decide +kernel⟩
-- 0 value, 1 tick, 2 key, 3 way
abbrev s_is_step : Stmt := topS 14
abbrev n_is_step : List Str := ["value", "key", "way"]
theorem sc_is_step : FnScope n_is_step ["value"] (defScope s_is_step) := ⟨rfl, rfl, rfl, by decide +kernel, rfl, by decide +kernel, by decide +kernel⟩
-- 0 value, 1 key, 2 way
abbrev s_is_below : Stmt := topS 15
abbrev n_is_below : List Str := ["key", "many"]
theorem sc_is_below : FnScope n_is_below ["key", "many"] (defScope s_is_below) := ⟨rfl, rfl, rfl, by decide +kernel, rfl, by decide +kernel, by decide +kernel⟩
-- 0 key, 1 many
abbrev s_can_follow : Stmt := topS 16
abbrev n_can_follow : List Str := ["event", "last", "held"]
theorem sc_can_follow : FnScope n_can_follow ["event", "last", "held"] (defScope s_can_follow) := ⟨rfl, rfl, rfl, by decide +kernel, rfl, by decide +kernel, by decide +kernel⟩
-- 0 event, 1 last, 2 held
abbrev s_takes_turn : Stmt := topS 17
abbrev n_takes_turn : List Str := ["held", "key", "way", "goes_down"]
theorem sc_takes_turn : FnScope n_takes_turn ["held", "key", "way"] (defScope s_takes_turn) := ⟨rfl, rfl, rfl, by decide +kernel, rfl, by decide +kernel, by decide +kernel⟩
-- 0 held, 1 key, 2 way, 3 goes_down
abbrev s__law_reel : Stmt := topS 19
abbrev n__law_reel : List Str := ["_law_script", "_law_index", "_law_mixed", "_law_cell"]
theorem sc__law_reel : FnScope n__law_reel ["_law_script", "_law_index"] (defScope s__law_reel) := ⟨rfl, rfl, rfl, by decide +kernel, rfl, by decide +kernel, by decide +kernel⟩
-- 0 _law_script, 1 _law_index, 2 _law_mixed, 3 _law_cell
abbrev s__law_spin : Stmt := topS 20
abbrev n__law_spin : List Str := ["_law_reel_here", "_law_size", "_law_digit", "_law_wide"]
theorem sc__law_spin : FnScope n__law_spin ["_law_reel_here", "_law_size"] (defScope s__law_spin) := ⟨rfl, rfl, rfl, by decide +kernel, rfl, by decide +kernel, by decide +kernel⟩
-- 0 _law_reel_here, 1 _law_size, 2 _law_digit, 3 _law_wide
abbrev s__law_record : Stmt := topS 21
abbrev n__law_record : List Str := ["_law_reel_here", "_law_keys", "_law_size", "_law_gaps", "_law_found", "_law_down", "_law_tick", "_law_turn", "_law_key"]
theorem sc__law_record : FnScope n__law_record ["_law_reel_here", "_law_keys", "_law_size", "_law_gaps"] (defScope s__law_record) := ⟨rfl, rfl, rfl, by decide +kernel, rfl, by decide +kernel, by decide +kernel⟩
-- 0 _law_reel_here, 1 _law_keys, 2 _law_size, 3 _law_gaps, 4 _law_found, 5 _law_down, 6 _law_tick, 7 _law_turn, 8 _law_key
abbrev s__law_is_number : Stmt := topS 22
abbrev n__law_is_number : List Str := ["_law_value", "_law_least", "_law_most"]
theorem sc__law_is_number : FnScope n__law_is_number ["_law_value", "_law_least", "_law_most"] (defScope s__law_is_number) := ⟨rfl, rfl, rfl, by decide +kernel, rfl, by decide +kernel, by decide +kernel⟩
-- 0 _law_value, 1 _law_least, 2 _law_most
abbrev s__law_record_fault : Stmt := topS 23
abbrev n__law_record_fault : List Str := ["_law_value", "_law_keys", "_law_down", "_law_before", "_law_far", "_law_index", "_law_item", "_law_tick", "_law_key", "_law_way"]
theorem sc__law_record_fault : FnScope n__law_record_fault ["_law_value", "_law_keys"] (defScope s__law_record_fault) := ⟨rfl, rfl, rfl, by decide +kernel, rfl, by decide +kernel, by decide +kernel⟩
-- 0 _law_value, 1 _law_keys, 2 _law_down, 3 _law_before, 4 _law_far, 5 _law_index, 6 _law_item, 7 _law_tick, 8 _law_key, 9 _law_way
abbrev s__law_order_fault : Stmt := topS 24
abbrev n__law_order_fault : List Str := ["_law_value", "_law_keys", "_law_found", "_law_item", "_law_due"]
theorem sc__law_order_fault : FnScope n__law_order_fault ["_law_value", "_law_keys"] (defScope s__law_order_fault) := ⟨rfl, rfl, rfl, by decide +kernel, rfl, by decide +kernel, by decide +kernel⟩
-- 0 _law_value, 1 _law_keys, 2 _law_found, 3 _law_item, 4 _law_due
abbrev s__law_odd_events : Stmt := topS 25
abbrev n__law_odd_events : List Str := ["_law_tick", "_law_key", "_law_way", "_law_other", "_law_some", "_law_one"]
theorem sc__law_odd_events : FnScope n__law_odd_events ["_law_tick", "_law_key", "_law_way"] (defScope s__law_odd_events) := ⟨rfl, rfl, rfl, by decide +kernel, rfl, by decide +kernel, by decide +kernel⟩
-- 0 _law_tick*, 1 _law_key*, 2 _law_way*, 3 _law_other, 4 _law_some, 5 _law_one*
abbrev s__law_next_event : Stmt := topS 26
abbrev n__law_next_event : List Str := ["_law_record_here", "_law_at", "_law_key", "_law_tick", "_law_many", "_law_event"]
theorem sc__law_next_event : FnScope n__law_next_event ["_law_record_here", "_law_at", "_law_key"] (defScope s__law_next_event) := ⟨rfl, rfl, rfl, by decide +kernel, rfl, by decide +kernel, by decide +kernel⟩
-- 0 _law_record_here, 1 _law_at, 2 _law_key*, 3 _law_tick, 4 _law_many, 5 _law_event*
abbrev s__law_told_right : Stmt := topS 27
abbrev n__law_told_right : List Str := ["_law_value", "_law_kept", "_law_dues", "_law_turn"]
theorem sc__law_told_right : FnScope n__law_told_right ["_law_value"] (defScope s__law_told_right) := ⟨rfl, rfl, rfl, by decide +kernel, rfl, by decide +kernel, by decide +kernel⟩
-- 0 _law_value, 1 _law_kept, 2 _law_dues, 3 _law_turn
abbrev s__law_steps : Stmt := topS 28
abbrev n__law_steps : List Str := ["_law_value", "_law_item"]
theorem sc__law_steps : FnScope n__law_steps ["_law_value"] (defScope s__law_steps) := ⟨rfl, rfl, rfl, by decide +kernel, rfl, by decide +kernel, by decide +kernel⟩
-- 0 _law_value, 1 _law_item*
abbrev s__law_sizes_right : Stmt := topS 29
abbrev n__law_sizes_right : List Str := ["_law_many", "_law_taps", "_law_told", "_law_number"]
theorem sc__law_sizes_right : FnScope n__law_sizes_right [] (defScope s__law_sizes_right) := ⟨rfl, rfl, rfl, by decide +kernel, rfl, by decide +kernel, by decide +kernel⟩
-- 0 _law_many, 1 _law_taps, 2 _law_told, 3 _law_number*
abbrev s__law_changed_right : Stmt := topS 30
abbrev n__law_changed_right : List Str := ["_law_record_here", "_law_told"]
theorem sc__law_changed_right : FnScope n__law_changed_right ["_law_record_here"] (defScope s__law_changed_right) := ⟨rfl, rfl, rfl, by decide +kernel, rfl, by decide +kernel, by decide +kernel⟩
-- 0 _law_record_here, 1 _law_told
abbrev s_law : Stmt := topS 31
abbrev n_law : List Str := ["_law_script", "_law_index", "_law_reel_here", "_law_turn", "_law_keys", "_law_size", "_law_record_here", "_law_tick", "_law_key", "_law_way", "_law_at", "_law_some", "_law_odd", "_law_bent", "_law_value", "_law_number"]
theorem sc_law : FnScope n_law ["_law_script"] (defScope s_law) := ⟨rfl, rfl, rfl, by decide +kernel, rfl, by decide +kernel, by decide +kernel⟩
-- 0 _law_script, 1 _law_index, 2 _law_reel_here*, 3 _law_turn, 4 _law_keys, 5 _law_size, 6 _law_record_here, 7 _law_tick, 8 _law_key, 9 _law_way, 10 _law_at, 11 _law_some*, 12 _law_odd, 13 _law_bent, 14 _law_value, 15 _law_number*


/-! ### the reel -/
def Reel (H : Hp) (r : Addr) (n : Nat) : Prop := ∃ x y z : Int, H r = some (.lst [.int x, .int y, .int z]) ∧ 0 ≤ x ∧ 0 ≤ y ∧ y < 10 ^ 42 ∧ 0 ≤ z ∧ z ≤ (n : Int)
theorem Reel.mono {H : Hp} {r : Addr} {n m : Nat} (h : Reel H r n) (l : n ≤ m) : Reel H r m := by
  obtain ⟨x, y, z, a, b, c, d, e, f⟩ := h
  exact ⟨x, y, z, a, b, c, d, e, by omega⟩
theorem Reel.same {H H' : Hp} {r : Addr} {n : Nat} (h : Reel H r n) (l : Same H H') : Reel H' r n := by
  obtain ⟨x, y, z, a, b⟩ := h
  exact ⟨x, y, z, l _ _ a, b⟩
/-- the draws so far are fewer than this -/
abbrev most : Nat := 1000000000
def spSpin : Sp := fun vs H Q _ => ∃ (r : Addr) (m : Int) (n : Nat), vs = [.ref r, .int m] ∧ 0 < m ∧ m < 10 ^ 40 ∧ n < most ∧ Reel H r n ∧
  ∀ d H', 0 ≤ d → d < m → Reel H' r (n + 1) → Off r H H' → Q (.int d) H'
structure Bt (mg : Str → Option Value) : Prop where
  m_len : mg "len" = none
  m_abs : mg "abs" = none
  m_max : mg "max" = none
  m_repr : mg "repr" = none
  m_sorted : mg "sorted" = none
  m_isinstance : mg "isinstance" = none
  m_all : mg "all" = none
  m_list : mg "list" = none
  m_tuple : mg "tuple" = none
  m_int : mg "int" = none
  m_bool : mg "bool" = none
  m_str : mg "str" = none
  m_range : mg "range" = none
  m_enumerate : mg "enumerate" = none
  m_zip : mg "zip" = none
  m_min : mg "min" = none
section
variable {P : Program} {w : World} {K : PySem.W.Frag} {mg : Str → Option Value} {base : Heap}
theorem p43 : (10 : Int) ^ (43 : Int).toNat + 57 = 10 ^ 43 + 57 := rfl
theorem ok__law_spin (a : At K mg "_law_spin" s__law_spin ["_law_reel_here", "_law_size"]) : Cl P w K mg base 1 "_law_spin" spSpin := by
  refine clG a sc__law_spin (fun vs H Q E h => ?_) (fun f cdv A outer s H vs Q hg hr h => ?_)
  · obtain ⟨r, m, n, rfl, _⟩ := h
    rfl
  · obtain ⟨r, m, n, rfl, hm, hm2, hn0, ⟨x, y, z, hR, hx, hy, hy2, hz, hz2⟩, q⟩ := h
    have hn : n < 1000000000 := hn0
    refine ⟨_, (pss_cons (ps_if (pt_cmpR op_gt (pe_ix ix_list (pv 0) pe_int (fun _ _ => rfl)) pe_int (nomark _)) (pss_cons (ps_set (i := 2) sc__law_spin.nd rfl (Or.inl rfl) (pe_op op_mod (pe_ix ix_list (pv 0) pe_int (fun _ _ => rfl)) (pv 1)))
      (pss_cons (ps_asg (pe_op op_fdivW (pe_ix ix_list (pv 0) pe_int (fun _ _ => rfl)) (pv 1)) (pg_sub (pv 0) pe_int set_list))
      (pss_one (ps_ret (pv 2))))) pss_nil)
      (pss_cons (ps_asg (pe_op op_add (pe_ix ix_list (pv 0) pe_int (fun _ _ => rfl)) pe_int) (pg_sub (pv 0) pe_int set_list))
      (pss_cons (ps_set (i := 3) sc__law_spin.nd rfl (Or.inl rfl) (pe_op op_mod (pe_op op_powW (pe_op op_add (pe_ix ix_list (pv 0) pe_int (fun _ _ => rfl)) (pe_op op_mulW pe_int (pe_ix ix_list (pv 0) pe_int (fun _ _ => rfl)))) pe_int) (pe_op op_add (pe_op op_powW pe_int pe_int) pe_int)))
      (pss_cons (ps_set (i := 3) sc__law_spin.nd rfl (Or.inl rfl) (pe_op op_mod (pe_op op_powW (pe_op op_add (pv 3) (pe_op op_mulW pe_int (pe_ix ix_list (pv 0) pe_int (fun _ _ => rfl)))) pe_int) (pe_op op_add (pe_op op_powW pe_int pe_int) pe_int)))
      (pss_one (ps_ret (pe_op op_mod (pe_op op_fdivW (pv 3) pe_int) (pv 1)))))))), ?_⟩
    refine ⟨_, rfl, r, _, 0, _, rfl, rfl, SqL.of hR, atI_nat (j := 0) rfl, ?_⟩
    refine ⟨_, _, rfl, rfl, _, rfl, ite2 (fun e => ?_) (fun e => ?_)⟩
    · -- a digit of the great number
      have e0 : 0 < x := of_decide_eq_true e
      refine ⟨_, rfl, r, _, 0, _, rfl, rfl, SqL.of hR, atI_nat (j := 0) rfl, _, rfl, _, _, rfl, rfl, hm, ?_⟩
      refine ⟨_, rfl, r, _, 0, _, rfl, rfl, SqL.of hR, atI_nat (j := 0) rfl, _, rfl, _, _, rfl, rfl, wide_div (b := 140) hm (by omega) (by decide) (by decide), ?_⟩
      refine ⟨_, rfl, r, _, 0, 0, rfl, rfl, hR, rfl, ?_⟩
      refine ⟨_, rfl, q _ _ (Int.emod_nonneg _ (by omega)) (Int.emod_lt_of_pos _ hm) ⟨x / m, y, z, upd_same, Int.ediv_nonneg hx (by omega), hy, hy2, hz, by omega⟩ off_upd⟩
    · refine ⟨_, rfl, r, _, 2, _, rfl, rfl, SqL.of hR, atI_nat (j := 2) rfl, _, _, rfl, rfl, ?_⟩
      refine ⟨_, rfl, r, _, 2, 2, rfl, rfl, hR, rfl, ?_⟩
      have hR1 : upd H r (.lst [.int x, .int y, .int (z + 1)]) r = some (.lst [.int x, .int y, .int (z + 1)]) := upd_same
      refine ⟨_, rfl, r, _, 1, _, rfl, rfl, SqL.of hR1, atI_nat (j := 1) rfl, ?_⟩
      refine ⟨_, rfl, r, _, 2, _, rfl, rfl, SqL.of hR1, atI_nat (j := 2) rfl, ?_⟩
      have b1 : (z + 1).natAbs < 2 ^ 40 := by omega
      have b2 : (49979687 * (z + 1)).natAbs < 2 ^ 80 := by omega
      refine ⟨_, _, rfl, rfl, wide_mul (a := 40) (b := 40) (by decide) b1 (by decide) (by decide) (by decide), ?_⟩
      refine ⟨_, _, rfl, rfl, ?_⟩
      have b3 : (y + 49979687 * (z + 1)).natAbs < 2 ^ 150 := by omega
      refine ⟨_, _, rfl, rfl, powW (n := 150) (k := 3) b3 (by decide), ?_⟩
      refine ⟨_, _, rfl, rfl, powW (n := 40) (k := 43) (by decide) (by decide), ?_⟩
      refine ⟨_, _, rfl, rfl, _, _, rfl, rfl, (show (0 : Int) < 10 ^ 43 + 57 by decide), ?_⟩
      have c1 : 0 ≤ (y + 49979687 * (z + 1)) ^ 3 % (10 ^ 43 + 57) := Int.emod_nonneg _ (by decide)
      have c2 : (y + 49979687 * (z + 1)) ^ 3 % (10 ^ 43 + 57) < 10 ^ 43 + 57 := Int.emod_lt_of_pos _ (by decide)
      generalize hu : (y + 49979687 * (z + 1)) ^ 3 % (10 ^ 43 + 57) = u at c1 c2
      refine ⟨.int u, congrArg (fun v => some (some (V.int v))) hu, ?_⟩
      refine ⟨_, rfl, r, _, 2, _, rfl, rfl, SqL.of hR1, atI_nat (j := 2) rfl, ?_⟩
      have b4 : (22801763 * (z + 1)).natAbs < 2 ^ 80 := by omega
      refine ⟨_, _, rfl, rfl, wide_mul (a := 40) (b := 40) (by decide) b1 (by decide) (by decide) (by decide), ?_⟩
      have b5 : (u + 22801763 * (z + 1)).natAbs < 2 ^ 150 := by omega
      refine ⟨_, _, rfl, rfl, _, _, rfl, rfl, powW (n := 150) (k := 5) b5 (by decide), ?_⟩
      refine ⟨_, _, rfl, rfl, powW (n := 40) (k := 40) (by decide) (by decide), ?_⟩
      refine ⟨_, _, rfl, rfl, _, _, rfl, rfl, (show (0 : Int) < 10 ^ 40 + 121 by decide), ?_⟩
      refine ⟨_, rfl, _, _, rfl, rfl, wide_div (b := 40) (by decide) (by decide) (by decide) (by decide), ?_⟩
      refine ⟨_, rfl, _, _, rfl, rfl, hm, ?_⟩
      exact q _ _ (Int.emod_nonneg _ (by omega)) (Int.emod_lt_of_pos _ hm) ⟨x, y, z + 1, upd_same, hx, hy, hy2, by omega, by omega⟩ off_upd
def spReel (K : PySem.W.Frag) : Sp := fun vs H Q _ => ∃ (s : Addr) (ns : List Int) (i : Nat), vs = [.ref s, .int (i : Int)] ∧ SqL K H s (ns.map V.int) ∧ ns.length ≤ 63 ∧ i < 100 ∧
  ∀ r H', Same H H' → H r = none → Reel H' r 0 → Q (.ref r) H'
theorem ok__law_reel (bt : Bt mg) (a : At K mg "_law_reel" s__law_reel ["_law_script", "_law_index"]) : Cl P w K mg base 1 "_law_reel" (spReel K) := by
  refine clG a sc__law_reel (fun vs H Q E h => ?_) (fun f cdv A outer s H vs Q hg hr h => ?_)
  · obtain ⟨r, m, n, rfl, _⟩ := h
    rfl
  · obtain ⟨sc, ns, i, rfl, hS, hl, hi, q⟩ := h
    refine ⟨_, (pss_cons (ps_set (i := 2) sc__law_reel.nd rfl (Or.inl rfl) (pe_op op_add pe_int (pe_op op_mulW pe_int (pv 1))))
      (pss_cons (ps_for PassesOwn.never rfl (pi_list (pv 0)) (pg_name (i := 3) sc__law_reel.nd rfl (Or.inl rfl)) (pss_one (ps_set (i := 2) sc__law_reel.nd rfl (Or.inl rfl) (pe_op op_mod (pe_op op_add (pe_op op_mulW (pv 2) pe_int) (pe_op op_mod (pv 3) (pe_op op_add (pe_op op_powW pe_int pe_int) pe_int))) (pe_op op_add (pe_op op_powW pe_int pe_int) pe_int)))))
      (pss_cons (ps_set (i := 3) sc__law_reel.nd rfl (Or.inl rfl) (pe_ifExp (pt_cmpR op_lt (pv 1) (pe_callB call_len_seq (by rfl) bt.m_len (by decide +kernel) (pa_cons (pv 0) pa_nil)) (nomark _)) (pe_callB call_abs (by rfl) bt.m_abs (by decide +kernel) (pa_cons (pe_ix ix_list (pv 0) (pv 1) (fun _ _ => rfl)) pa_nil)) pe_int))
      (pss_one (ps_ret (pe_lst (pa_cons (pe_callB (call_max2 rfl) (by rfl) bt.m_max (by decide +kernel) (pa_cons pe_int (pa_cons (pe_op op_sub (pv 3) (pe_op op_powW pe_int pe_int)) pa_nil))) (pa_cons (pv 2) (pa_cons pe_int pa_nil))))))))), ?_⟩
    -- mixed = 60013 + 53 * index
    refine ⟨_, rfl, _, _, rfl, rfl, wide_mul (a := 40) (b := 40) (by decide) (by omega) (by decide) (by decide) (by decide), _, _, rfl, rfl, ?_⟩
    refine ⟨_, rfl, sc, rfl, ⟨_, hS⟩, for_it (walk_list (xs := ns.map V.int)) (fun _ σ H' => H' = H ∧ ∃ m y3, σ = [some (.ref sc), some (.int (i : Int)), some (.int m), y3] ∧ 0 ≤ m ∧ m < 10 ^ 42)
      ⟨rfl, _, _, rfl, by omega, by omega⟩ (fun _ _ H' _ p => by obtain ⟨rfl, _⟩ := p; exact hS) (fun j x σ H1 H2 hj p y => ?_) (fun σ H1 p => ?_)⟩
    · obtain ⟨rfl, m, y3, rfl, m0, m1⟩ := p
      obtain ⟨rfl, hx⟩ := y
      obtain ⟨c, hc, rfl⟩ : ∃ c, ns[j]? = some c ∧ V.int c = x := by
        rw [List.getElem?_map] at hx
        cases e : ns[j]? with
        | none => rw [e] at hx; cases hx
        | some c => rw [e] at hx; exact ⟨c, rfl, Option.some.inj hx⟩
      have b1 : m.natAbs < 2 ^ 140 := by omega
      refine ⟨_, rfl, _, _, rfl, rfl, wide_mul (a := 140) (b := 40) b1 (by decide) (by decide) (by decide) (by decide), ?_⟩
      refine ⟨_, rfl, _, _, rfl, rfl, powW (n := 40) (k := 43) (by decide) (by decide), _, _, rfl, rfl, ?_⟩
      refine ⟨_, _, rfl, rfl, (show (0 : Int) < 10 ^ 43 + 57 by decide), _, _, rfl, rfl, _, _, rfl, rfl, powW (n := 40) (k := 41) (by decide) (by decide), ?_⟩
      refine ⟨_, _, rfl, rfl, _, _, rfl, rfl, (show (0 : Int) < 10 ^ 41 + 37 by decide), ?_⟩
      have c1 := Int.emod_nonneg (m * 8675311 + c % (10 ^ 43 + 57)) (b := 10 ^ 41 + 37) (by decide)
      have c2 := Int.emod_lt_of_pos (m * 8675311 + c % (10 ^ 43 + 57)) (b := 10 ^ 41 + 37) (by decide)
      refine ⟨rfl, _, _, rfl, c1, ?_⟩
      exact Int.lt_trans c2 (by decide)
    · obtain ⟨rfl, m, y3, rfl, m0, m1⟩ := p
      refine ⟨_, rfl, .ref sc, rfl, sc, _, rfl, .inl hS, _, _, rfl, rfl, _, rfl, ite2 (fun e => ?_) (fun e => ?_)⟩
      · have e0 : (i : Int) < ((ns.map V.int).length : Nat) := of_decide_eq_true e
        rw [List.length_map] at e0
        have hlt : i < ns.length := by omega
        have g : (ns.map V.int)[i]? = some (.int ns[i]) := by
          rw [List.getElem?_map, List.getElem?_eq_getElem hlt]; rfl
        refine ⟨_, rfl, _, rfl, sc, _, (i : Int), _, rfl, rfl, hS, atI_nat g, _, rfl, ?_⟩
        refine ⟨_, rfl, _, _, rfl, rfl, powW (n := 40) (k := 18) (by decide) (by decide), _, _, rfl, rfl, _, _, rfl, .int m, rfl, (by show 3 ≤ sizeLine; decide), fun p np => ?_⟩
        exact q p _ (same_upd np) np ⟨_, m, 0, upd_same, by split <;> omega, m0, m1, by decide, by decide⟩
      · refine ⟨_, rfl, _, _, rfl, rfl, powW (n := 40) (k := 18) (by decide) (by decide), _, _, rfl, rfl, _, _, rfl, .int m, rfl, (by show 3 ≤ sizeLine; decide), fun p np => ?_⟩
        exact q p _ (same_upd np) np ⟨_, m, 0, upd_same, by split <;> omega, m0, m1, by decide, by decide⟩
end
end K05

set_option Elab.async false
set_option linter.all false
set_option maxRecDepth 100000
set_option maxHeartbeats 8000000
namespace K05
open PySem PySem.Spec PyProof.Rows L2 Gd Rm
def rLenB (K : PySem.W.Frag) : List V → Hp → VK → Prop := fun xs H Q => ∃ p ys, xs = [.ref p] ∧ (SqL K H p ys ∨ SqT K H p ys) ∧ Q (.int ys.length) H
/-! ### what data is -/
def intB : PyData → Bool
  | .int _ => true
  | _ => false
def isWay (w : Str) : Prop := w = ("down" : Str) ∨ w = ("up" : Str)
instance (w : Str) : Decidable (isWay w) := by unfold isWay; infer_instance
def parseO : PyData → Option Ev
  | .tuple [.int k, .str w] => if 0 ≤ k ∧ isWay w then some ⟨0, k, decide (w = ("down" : Str))⟩ else none
  | _ => none
def parseR : PyData → Option Ev
  | .tuple [.int t, .int k, .str w] => if 0 ≤ k ∧ isWay w then some ⟨t, k, decide (w = ("down" : Str))⟩ else none
  | _ => none
theorem way_eq {w : Str} (h : isWay w) : w = wayS (decide (w = ("down" : Str))) := by
  rcases h with rfl | rfl <;> decide +kernel
theorem parseR_eq {d : PyData} {e : Ev} (h : parseR d = some e) : d = evD e ∧ 0 ≤ e.k := by
  unfold parseR at h
  split at h
  · rename_i t k w
    split at h
    · rename_i z
      cases h
      refine ⟨?_, z.1⟩
      show PyData.tuple [.int t, .int k, .str w] = .tuple [.int t, .int k, .str (wayS (decide (w = ("down" : Str))))]
      rw [← way_eq z.2]
    · cases h
  · cases h
theorem parseO_eq {d : PyData} {e : Ev} (h : parseO d = some e) : d = stD e ∧ 0 ≤ e.k := by
  unfold parseO at h
  split at h
  · rename_i k w
    split at h
    · rename_i z
      cases h
      refine ⟨?_, z.1⟩
      show PyData.tuple [.int k, .str w] = .tuple [.int k, .str (wayS (decide (w = ("down" : Str))))]
      rw [← way_eq z.2]
    · cases h
  · cases h
theorem parse_ev {a b c : PyData} : (parseR (.tuple [a, b, c])).isSome = (intB a && (parseO (.tuple [b, c])).isSome) := by
  cases a with
  | int t =>
    cases b with
    | int k =>
      cases c with
      | str w =>
        show (if 0 ≤ k ∧ isWay w then some _ else none : Option Ev).isSome = (if 0 ≤ k ∧ isWay w then some _ else none : Option Ev).isSome
        split <;> rfl
      | _ => rfl
    | _ => rfl
  | _ => rfl
theorem dq_two {K : PySem.W.Frag} {H : Hp} {xs : List V} {ds : List PyData} (h : DqAll K H xs ds) (hl : ds.length = 2) : ∃ k t vk vt, ds = [k, t] ∧ xs = [vk, vt] ∧ Dq K H vk k ∧ Dq K H vt t := by
  cases h with
  | nil => cases hl
  | cons a h =>
    cases h with
    | nil => cases hl
    | cons b h =>
      cases h with
      | nil => exact ⟨_, _, _, _, rfl, rfl, a, b⟩
      | cons _ _ => simp at hl
theorem dq_three {K : PySem.W.Frag} {H : Hp} {xs : List V} {ds : List PyData} (h : DqAll K H xs ds) (hl : ds.length = 3) : ∃ k t c vk vt vc, ds = [k, t, c] ∧ xs = [vk, vt, vc] ∧ Dq K H vk k ∧ Dq K H vt t ∧ Dq K H vc c := by
  cases h with
  | nil => cases hl
  | cons a h =>
    cases h with
    | nil => cases hl
    | cons b h =>
      cases h with
      | nil => cases hl
      | cons c h =>
        cases h with
        | nil => exact ⟨_, _, _, _, _, _, rfl, rfl, a, b, c⟩
        | cons _ _ => simp at hl
theorem po_len {ds : List PyData} (h : ds.length ≠ 2) : parseO (.tuple ds) = none := by
  match ds, h with
  | [], _ => rfl
  | [_], _ => unfold parseO; split <;> simp_all
  | [_, _], h => exact absurd rfl h
  | _ :: _ :: _ :: _, _ => unfold parseO; split <;> simp_all
theorem pr_len {ds : List PyData} (h : ds.length ≠ 3) : parseR (.tuple ds) = none := by
  match ds, h with
  | [], _ => rfl
  | [_], _ => unfold parseR; split <;> simp_all
  | [_, _], _ => unfold parseR; split <;> simp_all
  | [_, _, _], h => exact absurd rfl h
  | _ :: _ :: _ :: _ :: _, _ => unfold parseR; split <;> simp_all
theorem po_kind {d : PyData} (h : kindS d ≠ "tuple") : parseO d = none := by
  cases d with
  | tuple ds => exact absurd rfl h
  | _ => rfl
theorem pr_kind {d : PyData} (h : kindS d ≠ "tuple") : parseR d = none := by
  cases d with
  | tuple ds => exact absurd rfl h
  | _ => rfl
theorem po_int {a b : PyData} (h : intB a = false) : parseO (.tuple [a, b]) = none := by
  cases a with
  | int i => cases h
  | _ => rfl
theorem po_neg {k : Int} {b : PyData} (h : ¬ 0 ≤ k) : parseO (.tuple [.int k, b]) = none := by
  cases b with
  | str w => exact if_neg fun z => h z.1
  | _ => rfl
theorem po_str {a b : PyData} (h : kindS b ≠ "str") : parseO (.tuple [a, b]) = none := by
  cases b with
  | str c => exact absurd rfl h
  | _ => unfold parseO; split <;> simp_all
theorem po_way {k : Int} {w : Str} (h : 0 ≤ k) : (parseO (.tuple [.int k, .str w])).isSome = decide (isWay w) := by
  show (if 0 ≤ k ∧ isWay w then some _ else none : Option Ev).isSome = _
  by_cases z : isWay w
  · rw [if_pos ⟨h, z⟩, decide_eq_true z]; rfl
  · rw [if_neg fun y => z y.2, decide_eq_false z]; rfl
theorem inv_way (w : Str) : inV (.str w) [.str "down", .str "up"] = decide (isWay w) := by
  have e : ∀ a b : Str, eqV (.str a) (.str b) = decide (a = b) := fun a b => by by_cases z : a = b <;> simp [eqV, z]
  show (eqV (.str "down") (.str w) || (eqV (.str "up") (.str w) || false)) = _
  rw [e, e, Bool.or_false, Bool.eq_iff_iff, Bool.or_eq_true, decide_eq_true_eq, decide_eq_true_eq, decide_eq_true_eq]
  exact ⟨fun h => h.imp Eq.symm Eq.symm, fun h => h.imp Eq.symm Eq.symm⟩
section
variable {P : Program} {w : World} {K : PySem.W.Frag} {mg : Str → Option Value} {base : Heap}
def spInt (K : PySem.W.Frag) : Sp := fun vs H Q _ => ∃ (v : V) (d : PyData), vs = [v] ∧ Dq K H v d ∧ Q (.bl (intB d)) H
theorem ok_is_an_integer (bt : Bt mg) (a : At K mg "is_an_integer" s_is_an_integer ["value"]) : Cl P w K mg base 1 "is_an_integer" (spInt K) := by
  refine clG a sc_is_an_integer (fun vs H Q E h => ?_) (fun f cdv A outer s H vs Q hg hr h => ?_)
  · obtain ⟨v, d, rfl, _⟩ := h
    rfl
  · obtain ⟨v, d, rfl, hd, q⟩ := h
    refine ⟨_, (pss_one (ps_ret (pe_and (pe_callB call_isi (by rfl) bt.m_isinstance (by decide +kernel) (pa_cons (pv 0) (pa_cons (pe_bltn (v := .ty "int") (by rfl) bt.m_int (by decide +kernel) rfl) pa_nil))) (pe_one (pe_not (pe_callB call_isi (by rfl) bt.m_isinstance (by decide +kernel) (pa_cons (pv 0) (pa_cons (pe_bltn (v := .ty "bool") (by rfl) bt.m_bool (by decide +kernel) rfl) pa_nil)))))))), ?_⟩
    have ty := hd.ty
    cases d with
    | int i =>
      refine ⟨_, rfl, _, _, _, _, true, rfl, .ty "int", ty, kit_ty (show kitB "int" "int" = some true by decide +kernel), _, rfl, iteT ?_⟩
      exact ⟨_, rfl, _, _, _, _, false, rfl, .ty "bool", ty, kit_ty (show kitB "int" "bool" = some false by decide +kernel), _, rfl, q⟩
    | bool b =>
      refine ⟨_, rfl, _, _, _, _, true, rfl, .ty "int", ty, kit_ty (show kitB "bool" "int" = some true by decide +kernel), _, rfl, iteT ?_⟩
      exact ⟨_, rfl, _, _, _, _, true, rfl, .ty "bool", ty, kit_ty (show kitB "bool" "bool" = some true by decide +kernel), _, rfl, q⟩
    | none => exact ⟨_, rfl, _, _, _, _, false, rfl, .ty "int", ty, kit_ty (show kitB "NoneType" "int" = some false by decide +kernel), _, rfl, iteF q⟩
    | str => exact ⟨_, rfl, _, _, _, _, false, rfl, .ty "int", ty, kit_ty (show kitB "str" "int" = some false by decide +kernel), _, rfl, iteF q⟩
    | list => exact ⟨_, rfl, _, _, _, _, false, rfl, .ty "int", ty, kit_ty (show kitB "list" "int" = some false by decide +kernel), _, rfl, iteF q⟩
    | tuple => exact ⟨_, rfl, _, _, _, _, false, rfl, .ty "int", ty, kit_ty (show kitB "tuple" "int" = some false by decide +kernel), _, rfl, iteF q⟩
    | dict => exact ⟨_, rfl, _, _, _, _, false, rfl, .ty "int", ty, kit_ty (show kitB "dict" "int" = some false by decide +kernel), _, rfl, iteF q⟩
def spStep (K : PySem.W.Frag) : Sp := fun vs H Q _ => ∃ (v : V) (d : PyData), vs = [v] ∧ Dq K H v d ∧ ∀ H', Same H H' → Q (.bl (parseO d).isSome) H'
theorem ok_is_step (bt : Bt mg) (a : At K mg "is_step" s_is_step ["value"]) (c_is_an_integer : Cl P w K mg base 1 "is_an_integer" (spInt K)) : Cl P w K mg base 2 "is_step" (spStep K) := by
  refine clG a sc_is_step (fun vs H Q E h => ?_) (fun f cdv A outer s H vs Q hg hr h => ?_)
  · obtain ⟨v, d, rfl, _⟩ := h
    rfl
  · obtain ⟨v, d, rfl, hd, q⟩ := h
    refine ⟨_, (pss_cons (ps_if (PW.pt (pw_or (pt_not (pt_val (pe_callB call_isi (by rfl) bt.m_isinstance (by decide +kernel) (pa_cons (pv 0) (pa_cons (pe_bltn (v := .ty "tuple") (by rfl) bt.m_tuple (by decide +kernel) rfl) pa_nil))))) (pw_or1 (pt_cmpR op_ne (pe_callB call_len_seq (by rfl) bt.m_len (by decide +kernel) (pa_cons (pv 0) pa_nil)) pe_int (nomark _))))) (pss_one (ps_ret pe_bl)) pss_nil)
      (pss_cons (ps_asg (pv 0) (pg_tup rfl (pgs_cons (pg_name (i := 1) sc_is_step.nd rfl (Or.inl rfl)) (pgs_cons (pg_name (i := 2) sc_is_step.nd rfl (Or.inl rfl)) pgs_nil))))
      (pss_one (ps_ret (pe_and (pe_cl c_is_an_integer hg hr (by decide) (by rfl) (pa_cons (pv 1) pa_nil)) (pe_and (pe_cmpR op_ge (pv 1) pe_int (nomark _)) (pe_and (pe_callB call_isi (by rfl) bt.m_isinstance (by decide +kernel) (pa_cons (pv 2) (pa_cons (pe_bltn (v := .ty "str") (by rfl) bt.m_str (by decide +kernel) rfl) pa_nil))) (pe_one (pe_cmpR op_in_seq (pv 2) (pe_tup (pa_cons pe_str (pa_cons pe_str pa_nil))) (by rfl)))))))))), ?_⟩
    have bad : parseO d = none → Q (.bl false) H := fun e => by
      have q' := q _ (Same.refl _)
      rw [e] at q'
      exact q'
    by_cases hk : kindS d = "tuple"
    · obtain ⟨b, xs, ds, rfl, rfl, hs, hD⟩ := hd.tupE hk
      have hl : xs.length = ds.length := hD.length
      refine ⟨_, rfl, _, _, _, _, true, rfl, .ty "tuple", hd.ty, kit_ty (kit_tupT hk), _, rfl, iteF ?_⟩
      refine ⟨_, rfl, b, _, rfl, .inr hs, rfl, ?_⟩
      by_cases h2 : ds.length = 2
      · obtain ⟨k, y, vk, vy, rfl, rfl, hdk, hdy⟩ := dq_two hD h2
        refine ⟨_, rfl, iteF ?_⟩
        refine ⟨_, rfl, b, _, rfl, hs, rfl, _, _, rfl, _, _, rfl, rfl, ?_⟩
        refine ⟨_, rfl, vk, k, rfl, hdk, ?_⟩
        cases hik : intB k with
        | false => exact ⟨_, rfl, iteF (bad (po_int hik))⟩
        | true =>
          refine ⟨_, rfl, iteT ?_⟩
          cases k with
          | int i =>
            cases hdk
            refine ⟨_, rfl, _, _, rfl, rfl, ?_⟩
            by_cases h0 : 0 ≤ i
            · refine ⟨true, congrArg V.bl (decide_eq_true h0), iteT ?_⟩
              by_cases hy : kindS y = "str"
              · obtain ⟨c, rfl, rfl⟩ := hdy.strE hy
                refine ⟨_, rfl, _, _, _, _, true, rfl, .ty "str", hdy.ty, kit_ty (kit_strT hy), _, rfl, iteT ?_⟩
                refine ⟨_, rfl, (by show 2 ≤ sizeLine; decide), fun p np => ?_⟩
                refine ⟨p, _, rfl, .inr (SqT.of upd_same), rfl, rfl, ?_⟩
                have q' := q _ (same_upd (o := .tup [.str ("down" : String), .str ("up" : String)]) np)
                rw [po_way h0, ← inv_way] at q'
                exact q'
              · exact ⟨_, rfl, _, _, _, _, false, rfl, .ty "str", hdy.ty, kit_ty (kit_strF hy), _, rfl, iteF (bad (po_str hy))⟩
            · exact ⟨false, congrArg V.bl (decide_eq_false h0), iteF (bad (po_neg h0))⟩
          | _ => cases hik
      · exact ⟨_, congrArg V.bl (show (!decide (V.int (xs.length : Nat) = V.int 2)) = true by rw [decide_eq_false fun z => h2 (by have := V.int.inj z; omega)]; rfl), iteT (bad (po_len h2))⟩
    · exact ⟨_, rfl, _, _, _, _, false, rfl, .ty "tuple", hd.ty, kit_ty (kit_tupF hk), _, rfl, iteT (bad (po_kind hk))⟩
def spEvent (K : PySem.W.Frag) : Sp := fun vs H Q _ => ∃ (v : V) (d : PyData), vs = [v] ∧ Dq K H v d ∧ ∀ H', Same H H' → Q (.bl (parseR d).isSome) H'
theorem ok_is_event (bt : Bt mg) (a : At K mg "is_event" s_is_event ["value"]) (c_is_an_integer : Cl P w K mg base 1 "is_an_integer" (spInt K)) (c_is_step : Cl P w K mg base 2 "is_step" (spStep K)) : Cl P w K mg base 3 "is_event" (spEvent K) := by
  refine clG a sc_is_event (fun vs H Q E h => ?_) (fun f cdv A outer s H vs Q hg hr h => ?_)
  · obtain ⟨v, d, rfl, _⟩ := h
    rfl
  · obtain ⟨v, d, rfl, hd, q⟩ := h
    refine ⟨_, (pss_cons (ps_if (PW.pt (pw_or (pt_not (pt_val (pe_callB call_isi (by rfl) bt.m_isinstance (by decide +kernel) (pa_cons (pv 0) (pa_cons (pe_bltn (v := .ty "tuple") (by rfl) bt.m_tuple (by decide +kernel) rfl) pa_nil))))) (pw_or1 (pt_cmpR op_ne (pe_callB call_len_seq (by rfl) bt.m_len (by decide +kernel) (pa_cons (pv 0) pa_nil)) pe_int (nomark _))))) (pss_one (ps_ret pe_bl)) pss_nil)
      (pss_cons (ps_asg (pv 0) (pg_tup rfl (pgs_cons (pg_name (i := 1) sc_is_event.nd rfl (Or.inl rfl)) (pgs_cons (pg_name (i := 2) sc_is_event.nd rfl (Or.inl rfl)) (pgs_cons (pg_name (i := 3) sc_is_event.nd rfl (Or.inl rfl)) pgs_nil)))))
      (pss_one (ps_ret (pe_and (pe_cl c_is_an_integer hg hr (by decide) (by rfl) (pa_cons (pv 1) pa_nil)) (pe_one (pe_cl c_is_step hg hr (by decide) (by rfl) (pa_cons (pe_tup (pa_cons (pv 2) (pa_cons (pv 3) pa_nil))) pa_nil)))))))), ?_⟩
    have bad : parseR d = none → Q (.bl false) H := fun e => by
      have q' := q _ (Same.refl _)
      rw [e] at q'
      exact q'
    by_cases hk : kindS d = "tuple"
    · obtain ⟨b, xs, ds, rfl, rfl, hs, hD⟩ := hd.tupE hk
      have hl : xs.length = ds.length := hD.length
      refine ⟨_, rfl, _, _, _, _, true, rfl, .ty "tuple", hd.ty, kit_ty (kit_tupT hk), _, rfl, iteF ?_⟩
      refine ⟨_, rfl, b, _, rfl, .inr hs, rfl, ?_⟩
      by_cases h3 : ds.length = 3
      · obtain ⟨t, k, y, vt, vk, vy, rfl, rfl, hdt, hdk, hdy⟩ := dq_three hD h3
        refine ⟨_, rfl, iteF ?_⟩
        refine ⟨_, rfl, b, _, rfl, hs, rfl, _, _, rfl, _, _, rfl, _, _, rfl, rfl, ?_⟩
        refine ⟨_, rfl, vt, t, rfl, hdt, ?_⟩
        have pe := parse_ev (a := t) (b := k) (c := y)
        cases hit : intB t with
        | false =>
          rw [hit] at pe
          exact ⟨_, rfl, iteF (bad (Option.not_isSome_iff_eq_none.mp (by rw [pe, Bool.false_and]; decide)))⟩
        | true =>
          rw [hit, Bool.true_and] at pe
          refine ⟨_, rfl, iteT ?_⟩
          refine ⟨_, rfl, _, rfl, (by show 2 ≤ sizeLine; decide), fun p np => ?_⟩
          have sp := same_upd (o := .tup [vk, vy]) np
          refine ⟨.ref p, .tuple [k, y], rfl, .tup (SqT.of upd_same) (.cons (hdk.same sp) (.cons (hdy.same sp) .nil)), fun H' s' => ?_⟩
          have q' := q _ (sp.trans s')
          rw [pe] at q'
          exact q'
      · exact ⟨_, congrArg V.bl (show (!decide (V.int (xs.length : Nat) = V.int 3)) = true by rw [decide_eq_false fun z => h3 (by have := V.int.inj z; omega)]; rfl), iteT (bad (pr_len h3))⟩
    · exact ⟨_, rfl, _, _, _, _, false, rfl, .ty "tuple", hd.ty, kit_ty (kit_tupF hk), _, rfl, iteT (bad (pr_kind hk))⟩
def shortB : PyData → Bool
  | .list ds => decide (ds.length ≤ 400)
  | _ => false
def spShort (K : PySem.W.Frag) : Sp := fun vs H Q _ => ∃ (v : V) (d : PyData), vs = [v] ∧ Dq K H v d ∧ Q (.bl (shortB d)) H
theorem ok_is_short_list (bt : Bt mg) {tk : Tok} (m_MOST_EVENTS : mg "MOST_EVENTS" = some (.int 400 tk)) (a : At K mg "is_short_list" s_is_short_list ["value"]) : Cl P w K mg base 1 "is_short_list" (spShort K) := by
  refine clG a sc_is_short_list (fun vs H Q E h => ?_) (fun f cdv A outer s H vs Q hg hr h => ?_)
  · obtain ⟨v, d, rfl, _⟩ := h
    rfl
  · obtain ⟨v, d, rfl, hd, q⟩ := h
    refine ⟨_, (pss_one (ps_ret (pe_and (pe_callB call_isi (by rfl) bt.m_isinstance (by decide +kernel) (pa_cons (pv 0) (pa_cons (pe_bltn (v := .ty "list") (by rfl) bt.m_list (by decide +kernel) rfl) pa_nil))) (pe_one (pe_cmpR op_le (pe_callB call_len_seq (by rfl) bt.m_len (by decide +kernel) (pa_cons (pv 0) pa_nil)) (pe_glob (v := .int 400) (by rfl) m_MOST_EVENTS ⟨_, rfl⟩) (nomark _)))))), ?_⟩
    by_cases hk : kindS d = "list"
    · obtain ⟨b, xs, ds, rfl, rfl, hs, hD⟩ := hd.lstE hk
      have hl : xs.length = ds.length := hD.length
      refine ⟨_, rfl, _, _, _, _, true, rfl, .ty "list", hd.ty, kit_ty (kit_lstT hk), _, rfl, iteT ?_⟩
      refine ⟨_, rfl, b, _, rfl, .inl hs, _, _, rfl, rfl, ?_⟩
      show Q (.bl (decide (((xs.length : Nat) : Int) ≤ 400))) H
      rw [show decide (((xs.length : Nat) : Int) ≤ 400) = shortB (.list ds) from decide_eq_decide.mpr (by rw [hl]; omega)]
      exact q
    · refine ⟨_, rfl, _, _, _, _, false, rfl, .ty "list", hd.ty, kit_ty (kit_lstF hk), _, rfl, iteF ?_⟩
      have e : shortB d = false := by
        cases d with
        | list ds => exact absurd rfl hk
        | _ => rfl
      rw [e] at q
      exact q
def spTurn : Sp := fun vs H Q _ => ∃ (d : Addr) (kvs : List (Key × V)) (k : Int) (b h : Bool), vs = [.ref d, .int k, .str (wayS b)] ∧ H d = some (.dK kvs) ∧ kvs.length < sizeLine ∧
  (valV kvs (Sum.inl k)).getD (.bl false) = .bl h ∧ (h = !b → Q (.bl true) (upd H d (.dK (putK kvs (Sum.inl k) (.bl b))))) ∧ (h = b → Q (.bl false) H)
theorem ok_takes_turn (a : At K mg "takes_turn" s_takes_turn ["held", "key", "way"]) : Cl P w K mg base 1 "takes_turn" spTurn := by
  refine clG a sc_takes_turn (fun vs H Q E h => ?_) (fun f cdv A outer s H vs Q hg hr h => ?_)
  · obtain ⟨d, kvs, k, b, h, rfl, _⟩ := h
    rfl
  · obtain ⟨d, kvs, k, b, h, rfl, hd, hl, hv, q1, q2⟩ := h
    refine ⟨_, (pss_cons (ps_set (i := 3) sc_takes_turn.nd rfl (Or.inl rfl) (pe_cmpR op_eq (pv 2) pe_str (nomark _)))
      (pss_cons (ps_if (pt_cmpR op_eq (pe_dget2 (hu_of hr) (pv 0) (pv 1) pe_bl ⟨rfl, rfl, rfl, rfl⟩) (pv 3) (nomark _)) (pss_one (ps_ret pe_bl)) pss_nil)
      (pss_cons (ps_dput (hu_of hr) (pv 0) (pv 1) (pv 3) rfl)
      (pss_one (ps_ret pe_bl))))), ?_⟩
    refine ⟨_, rfl, rfl, ?_⟩
    refine ⟨_, rfl, d, rfl, .inl ⟨kvs, .inl hd⟩, _, rfl, _, DGet.k (k := Sum.inl k) hd, ?_⟩
    rw [wayS_down, hv]
    refine ⟨_, rfl, rfl, ?_⟩
    by_cases z : h = b
    · exact ⟨true, congrArg V.bl (decide_eq_true (by rw [z])), iteT (q2 z)⟩
    · refine ⟨false, congrArg V.bl (decide_eq_false fun y => z (V.bl.inj y)), iteF ?_⟩
      exact ⟨_, rfl, _, rfl, _, rfl, d, _, rfl, DPut.k (k := Sum.inl k) hd hl, q1 (by cases h <;> cases b <;> simp_all)⟩
def spBelow : Sp := fun vs H Q _ => ∃ k : Int, vs = [.int k, .non] ∧ Q (.bl true) H
theorem ok_is_below (a : At K mg "is_below" s_is_below ["key", "many"]) : Cl P w K mg base 1 "is_below" spBelow := by
  refine clG a sc_is_below (fun vs H Q E h => ?_) (fun f cdv A outer s H vs Q hg hr h => ?_)
  · obtain ⟨k, rfl, _⟩ := h
    rfl
  · obtain ⟨k, rfl, q⟩ := h
    refine ⟨_, (pss_one (ps_ret (pe_or (pe_cmpR op_isN (pv 1) pe_non (nomark _)) (pe_one (pe_cmpR op_lt (pv 0) (pv 1) (nomark _)))))), ?_⟩
    exact ⟨_, rfl, rfl, _, rfl, iteT q⟩
def lastOk (l : Option Ev) (e : Ev) : Bool := match l with
  | none => true
  | some x => decide (x.t ≤ e.t)
def spFollow (K : PySem.W.Frag) : Sp := fun vs H Q _ => ∃ (b d : Addr) (e : Ev) (l : V) (le : Option Ev) (kvs : List (Key × V)) (h : Bool), vs = [.ref b, l, .ref d] ∧ SqT K H b (evV e) ∧
  ((l = .non ∧ le = none) ∨ ∃ (b' : Addr) (e' : Ev), l = .ref b' ∧ SqT K H b' (evV e') ∧ le = some e') ∧ H d = some (.dK kvs) ∧ kvs.length < sizeLine ∧
  (valV kvs (Sum.inl e.k)).getD (.bl false) = .bl h ∧ (lastOk le e = true → h = !e.d → Q (.bl true) (upd H d (.dK (putK kvs (Sum.inl e.k) (.bl e.d))))) ∧ ((lastOk le e = true → h = e.d) → Q (.bl false) H)
theorem ok_can_follow (a : At K mg "can_follow" s_can_follow ["event", "last", "held"]) (c_takes_turn : Cl P w K mg base 1 "takes_turn" spTurn) : Cl P w K mg base 2 "can_follow" (spFollow K) := by
  refine clG a sc_can_follow (fun vs H Q E h => ?_) (fun f cdv A outer s H vs Q hg hr h => ?_)
  · obtain ⟨b, d, e, l, le, kvs, h, rfl, _⟩ := h
    rfl
  · obtain ⟨b, d, e, l, le, kvs, h, rfl, hb, hl, hd, hz, hv, q1, q2⟩ := h
    refine ⟨_, (pss_cons (ps_if (PW.pt (pw_and (pt_cmpR op_notN (pv 1) pe_non (nomark _)) (pw_and1 (pt_cmpR op_lt (pe_ix ix_tup (pv 0) pe_int (fun _ _ => rfl)) (pe_ix ix_tup (pv 1) pe_int (fun _ _ => rfl)) (nomark _))))) (pss_one (ps_ret pe_bl)) pss_nil)
      (pss_one (ps_ret (pe_cl c_takes_turn hg hr (by decide) (by rfl) (pa_cons (pv 2) (pa_cons (pe_ix ix_tup (pv 0) pe_int (fun _ _ => rfl)) (pa_cons (pe_ix ix_tup (pv 0) pe_int (fun _ _ => rfl)) pa_nil))))))), ?_⟩
    have turn : lastOk le e = true → spTurn [.ref d, .int e.k, .str (wayS e.d)] H Q E0 := fun z => ⟨d, kvs, e.k, e.d, h, rfl, hd, hz, hv, q1 z, fun y => q2 fun _ => y⟩
    rcases hl with ⟨rfl, rfl⟩ | ⟨b', e', rfl, hb', rfl⟩
    · refine ⟨_, rfl, rfl, _, rfl, iteF ?_⟩
      exact ⟨_, rfl, _, rfl, b, _, _, _, rfl, rfl, hb, atI_nat (j := 1) rfl, _, rfl, b, _, _, _, rfl, rfl, hb, atI_nat (j := 2) rfl, turn rfl⟩
    · refine ⟨_, rfl, rfl, _, rfl, iteT ?_⟩
      refine ⟨_, rfl, b, _, _, _, rfl, rfl, hb, atI_nat (j := 0) rfl, _, rfl, b', _, _, _, rfl, rfl, hb', atI_nat (j := 0) rfl, _, _, rfl, rfl, _, rfl, ite2 (fun z => ?_) (fun z => ?_)⟩
      · have z0 : e.t < e'.t := of_decide_eq_true z
        exact q2 fun y => absurd (of_decide_eq_true y) (show ¬ e'.t ≤ e.t by omega)
      · have z0 : ¬ e.t < e'.t := fun y => z (decide_eq_true y)
        exact ⟨_, rfl, _, rfl, b, _, _, _, rfl, rfl, hb, atI_nat (j := 1) rfl, _, rfl, b, _, _, _, rfl, rfl, hb, atI_nat (j := 2) rfl, turn (decide_eq_true (by omega))⟩
end
end K05

set_option Elab.async false
set_option linter.all false
set_option maxRecDepth 100000
set_option maxHeartbeats 8000000
namespace K05
open PySem PySem.Spec PyProof.Rows L2 Gd Rm
def turnOk (es : List Ev) (e : Ev) : Bool := decide (heldB es e.k = !e.d)
def stepR (es : List Ev) (d : PyData) : Option Ev := (parseR d).bind fun e => if (lastOk es.getLast? e && turnOk es e) = true then some e else none
def stepO (es : List Ev) (d : PyData) : Option Ev := (parseO d).bind fun e => if turnOk es e = true then some e else none
def recEs : List PyData → List Ev → Bool
  | [], _ => true
  | d :: ds, es => match stepR es d with
    | some e => recEs ds (es ++ [e])
    | none => false
def ordEs : List PyData → List Ev → Bool
  | [], _ => true
  | d :: ds, es => match stepO es d with
    | some e => ordEs ds (es ++ [e])
    | none => false
def recOk : PyData → Bool
  | .list ds => decide (ds.length ≤ 400) && recEs ds []
  | _ => false
def ordOk : PyData → Bool
  | .list ds => decide (ds.length ≤ 400) && ordEs ds []
  | _ => false
def optV : Option Nat → V
  | none => .non
  | some i => .int (i : Int)
theorem rec_bad {d : PyData} {ds : List PyData} {es : List Ev} (h : stepR es d = none) : recEs (d :: ds) es = false := by
  show (match stepR es d with | some e => recEs ds (es ++ [e]) | none => false) = false
  rw [h]
theorem rec_go {d : PyData} {ds : List PyData} {es : List Ev} {e : Ev} (h : stepR es d = some e) : recEs (d :: ds) es = recEs ds (es ++ [e]) := by
  show (match stepR es d with | some e => recEs ds (es ++ [e]) | none => false) = _
  rw [h]
theorem ord_bad {d : PyData} {ds : List PyData} {es : List Ev} (h : stepO es d = none) : ordEs (d :: ds) es = false := by
  show (match stepO es d with | some e => ordEs ds (es ++ [e]) | none => false) = false
  rw [h]
theorem ord_go {d : PyData} {ds : List PyData} {es : List Ev} {e : Ev} (h : stepO es d = some e) : ordEs (d :: ds) es = ordEs ds (es ++ [e]) := by
  show (match stepO es d with | some e => ordEs ds (es ++ [e]) | none => false) = _
  rw [h]
theorem dq_ev {K : PySem.W.Frag} {H : Hp} {v : V} {e : Ev} (h : Dq K H v (evD e)) : ∃ b, v = .ref b ∧ SqT K H b (evV e) := by
  obtain ⟨b, xs, ds, rfl, ed, hs, hD⟩ := h.tupE rfl
  cases ed
  cases hD with
  | cons h1 hD =>
    cases hD with
    | cons h2 hD =>
      cases hD with
      | cons h3 hD =>
        cases hD
        cases h1
        cases h2
        cases h3
        exact ⟨b, rfl, hs⟩
theorem dq_st {K : PySem.W.Frag} {H : Hp} {v : V} {e : Ev} (h : Dq K H v (stD e)) : ∃ b, v = .ref b ∧ SqT K H b (stV e) := by
  obtain ⟨b, xs, ds, rfl, ed, hs, hD⟩ := h.tupE rfl
  cases ed
  cases hD with
  | cons h1 hD =>
    cases hD with
    | cons h2 hD =>
      cases hD
      cases h1
      cases h2
      exact ⟨b, rfl, hs⟩
theorem drop_at {ds : List PyData} {i : Nat} {d : PyData} (h : ds[i]? = some d) : ds.drop i = d :: ds.drop (i + 1) := by
  have hi := (List.getElem?_eq_some_iff.mp h).1
  rw [List.drop_eq_getElem_cons hi]
  rw [List.getElem?_eq_getElem hi] at h
  rw [Option.some.inj h]
section
variable {P : Program} {w : World} {K : PySem.W.Frag} {mg : Str → Option Value} {base : Heap}
def spCR (K : PySem.W.Frag) (C : Addr) : Sp := fun vs H Q E => ∃ (v : V) (d : PyData), vs = [v, .non] ∧ Dq K H v d ∧
  (recOk d = true → ∀ H', Same H H' → Q .non H') ∧ (recOk d = false → ∀ f H' e, Same H H' → H' e = some (.xd [(("index" : Str), optV f)]) → E (.ref C) (some e) H')
theorem ok_check_record (bt : Bt mg) {C fI : Addr} (ex_InvalidRecord : PySem.Oxi.ExcTxt P K "InvalidRecord" C fI) (m_InvalidRecord : mg "InvalidRecord" = some (.ref C)) (a : AtX K mg "check_record" s_check_record ["value", "many"] [.none]) (c_is_short_list : Cl P w K mg base 1 "is_short_list" (spShort K)) (c_is_event : Cl P w K mg base 3 "is_event" (spEvent K)) (c_can_follow : Cl P w K mg base 2 "can_follow" (spFollow K)) (c_is_below : Cl P w K mg base 1 "is_below" spBelow) :
    ClXD P w K mg base 4 "check_record" (spCR K C) [.non] := by
  refine clGXD a (.cons rfl .nil) sc_check_record (fun vs H Q E h => ?_) (fun f cdv A outer s H vs Q E hg hr h => ?_)
  · obtain ⟨v, d, rfl, _⟩ := h
    rfl
  · obtain ⟨v, d, rfl, hd, q, qe⟩ := h
    refine ⟨_, (pss_cons (ps_if (pt_not (pt_val (pe_cl c_is_short_list hg hr (by decide) (by rfl) (pa_cons (pv 0) pa_nil)))) (pss_one (ps_raiseX rfl ex_InvalidRecord m_InvalidRecord hr (takes_of rfl rfl rfl rfl) (pa_cons pe_non pa_nil) (by rfl))) pss_nil)
      (pss_cons (ps_set (i := 2) sc_check_record.nd rfl (Or.inl rfl) pe_dnewK)
      (pss_one (ps_for (passes_of rfl) rfl (pi_enum (by rfl) bt.m_enumerate (pa_cons (pv 0) pa_nil)) (pg_tup rfl (pgs_cons (pg_name (i := 3) sc_check_record.nd rfl (Or.inl rfl)) (pgs_cons (pg_name (i := 4) sc_check_record.nd rfl (Or.inl rfl)) pgs_nil))) (pss_cons (ps_if (PW.pt (pw_or (pt_not (pt_val (pe_cl c_is_event hg hr (by decide) (by rfl) (pa_cons (pv 4) pa_nil)))) (pw_or1 (pt_not (pt_val (pe_cl c_is_below hg hr (by decide) (by rfl) (pa_cons (pe_ix ix_tup (pv 4) pe_int (fun _ _ => rfl)) (pa_cons (pv 1) pa_nil)))))))) (pss_one (ps_raiseX rfl ex_InvalidRecord m_InvalidRecord hr (takes_of rfl rfl rfl rfl) (pa_cons (pv 3) pa_nil) (by rfl))) pss_nil)
      (pss_one (ps_if (pt_not (pt_val (pe_cl c_can_follow hg hr (by decide) (by rfl) (pa_cons (pv 4) (pa_cons (pe_ifExp (pt_cmpR op_gt (pv 3) pe_int (nomark _)) (pe_ix ix_list (pv 0) (pe_op op_sub (pv 3) pe_int) (fun _ _ => rfl)) pe_non) (pa_cons (pv 2) pa_nil)))))) (pss_one (ps_raiseX rfl ex_InvalidRecord m_InvalidRecord hr (takes_of rfl rfl rfl rfl) (pa_cons (pv 3) pa_nil) (by rfl))) pss_nil))))))), ?_⟩
    refine ⟨_, rfl, v, d, rfl, hd, ?_⟩
    cases hsb : shortB d with
    | false =>
      refine ⟨_, rfl, iteT ⟨_, rfl, .inl rfl, fun e ne => ?_⟩⟩
      refine qe ?_ none _ e (same_upd ne) upd_same
      cases d with
      | list ds =>
        show (decide (ds.length ≤ 400) && recEs ds []) = false
        rw [show decide (ds.length ≤ 400) = false from hsb]; rfl
      | _ => rfl
    | true =>
      cases d with
      | list ds =>
        have hl4 : ds.length ≤ 400 := of_decide_eq_true hsb
        obtain ⟨c, xs, ds', rfl, ed, hs, hD⟩ := hd.lstE rfl
        cases ed
        have hl : xs.length = ds.length := hD.length
        have er : recOk (.list ds) = recEs ds [] := by
          show (decide (ds.length ≤ 400) && recEs ds []) = _
          rw [decide_eq_true hl4]; rfl
        rw [er] at q qe
        refine ⟨_, rfl, iteF ?_⟩
        intro hd' nd
        have sd := same_upd (o := .dK []) nd
        refine ⟨_, rfl, c, _, rfl, SqL.same_ hs sd, for_it (walk_enum (xs := xs))
          (fun i σ H' => Same H H' ∧ ∃ kvs es y3 y4, σ = [some (.ref c), some .non, some (.ref hd'), y3, y4] ∧ H' hd' = some (.dK kvs) ∧ kvs.length ≤ i ∧ HeldK kvs (heldB es) ∧ es.length = i ∧ ds.take i = es.map evD ∧ recEs ds [] = recEs (ds.drop i) es)
          ⟨sd, [], [], _, _, rfl, upd_same, Nat.le_refl _, HeldK.nil, rfl, rfl, rfl⟩ (fun _ _ H' _ p => SqL.same_ hs p.1) (fun i x σ H1 H2 hi p y => ?_) (fun σ H1 p => ?_)⟩
        · obtain ⟨s1, kvs, es, y3, y4, rfl, hk, hkl, hH, hel, het, hrec⟩ := p
          obtain ⟨T, u, v, rfl, nT, rfl, e1, e2⟩ := y
          obtain ⟨di, hdi, hdq⟩ := hD.at_ e2
          have e1' : u = .int (i : Nat) := (Option.some.inj e1).symm
          subst e1'
          have s2 := s1.trans (same_upd (o := .tup [.int (i : Nat), v]) nT)
          have hk2 := same_upd (o := .tup [.int (i : Nat), v]) nT _ _ hk
          rw [drop_at hdi] at hrec
          have ix : IxV (.int ((i : Nat) : Int)) := .inr ⟨_, rfl, by omega⟩
          refine ⟨T, _, rfl, SqT.of upd_same, rfl, _, _, rfl, _, _, rfl, rfl, ?_⟩
          refine ⟨_, rfl, v, di, rfl, hdq.same s2, fun H3 s3 => ⟨_, rfl, ?_⟩⟩
          have s4 := s2.trans s3
          have hk4 := s3 _ _ hk2
          have bad : stepR es di = none → ∀ H' e, Same H H' → H' e = some (.xd [(("index" : Str), V.int ((i : Nat) : Int))]) → E (.ref C) (some e) H' := fun z H' e s he => qe (by rw [hrec, rec_bad z]) (some i) H' e s he
          cases hpr : parseR di with
          | none =>
            refine iteT ⟨_, rfl, _, rfl, ix, fun e ne => ?_⟩
            exact bad (by unfold stepR; rw [hpr]; rfl) _ e (s4.trans (same_upd ne)) upd_same
          | some e =>
            obtain ⟨rfl, e0⟩ := parseR_eq hpr
            obtain ⟨b, rfl, hb⟩ := dq_ev (hdq.same s4)
            refine iteF ?_
            refine ⟨_, rfl, b, _, _, _, rfl, rfl, hb, atI_nat (j := 1) rfl, _, rfl, e.k, rfl, _, rfl, iteF ?_⟩
            have st : stepR es (evD e) = if (lastOk es.getLast? e && turnOk es e) = true then some e else none := by unfold stepR; rw [hpr]; rfl
            have good : lastOk es.getLast? e = true → heldB es e.k = !e.d → Same H (upd H3 hd' (.dK (putK kvs (Sum.inl e.k) (.bl e.d)))) ∧ ∃ kvs' es' y3 y4, [some (V.ref c), some V.non, some (V.ref hd'), some (V.int (i : Nat)), some (V.ref b)] = [some (V.ref c), some V.non, some (V.ref hd'), y3, y4] ∧
                upd H3 hd' (.dK (putK kvs (Sum.inl e.k) (.bl e.d))) hd' = some (.dK kvs') ∧ kvs'.length ≤ i + 1 ∧ HeldK kvs' (heldB es') ∧ es'.length = i + 1 ∧ ds.take (i + 1) = es'.map evD ∧ recEs ds [] = recEs (ds.drop (i + 1)) es' := fun z1 z2 => by
              refine ⟨Same.off s4 nd off_upd, _, es ++ [e], _, _, rfl, upd_same, ?_, hH.put, ?_, ?_, ?_⟩
              · have := put_len kvs (Sum.inl e.k) (.bl e.d); omega
              · rw [List.length_append, hel]; rfl
              · rw [List.take_add_one, hdi, het, List.map_append]; rfl
              · rw [hrec]
                refine rec_go ?_
                rw [st, z1, show turnOk es e = true from decide_eq_true z2]; rfl
            have fail : (lastOk es.getLast? e = true → heldB es e.k = e.d) → stepR es (evD e) = none := fun z => by
              rw [st]
              refine if_neg fun y => ?_
              rw [Bool.and_eq_true] at y
              have y2 : heldB es e.k = !e.d := of_decide_eq_true y.2
              rw [z y.1] at y2
              cases hh : e.d <;> rw [hh] at y2 <;> cases y2
            have hv := hH.at_ e.k
            have hz : kvs.length < sizeLine := small1000 (by omega)
            refine ⟨_, rfl, _, rfl, _, _, rfl, rfl, _, rfl, ite2 (fun z => ?_) (fun z => ?_)⟩
            · have z0 : (0 : Int) < (i : Nat) := of_decide_eq_true z
              have hi1 : i - 1 < es.length := by omega
              obtain ⟨v', hv', hdv⟩ := hD.get (i := i - 1) (d := evD es[i - 1]) (by
                have := congrArg (fun l => l[i - 1]?) het
                simp only [List.getElem?_take_of_lt (show i - 1 < i by omega), List.getElem?_map] at this
                rw [this, List.getElem?_eq_getElem hi1]; rfl)
              obtain ⟨b', rfl, hb'⟩ := dq_ev (hdv.same s4)
              have el : es.getLast? = some es[i - 1] := by
                rw [List.getLast?_eq_getElem?, hel, List.getElem?_eq_getElem hi1]
              refine ⟨_, rfl, _, rfl, _, _, rfl, rfl, c, _, _, .ref b', rfl, rfl, SqL.same_ hs s4, at_of (j := i - 1) (by omega) hv', _, rfl, ?_⟩
              refine ⟨b, hd', e, .ref b', some es[i - 1], kvs, _, rfl, hb, .inr ⟨b', _, rfl, hb', rfl⟩, hk4, hz, hv, fun y1 y2 => ⟨_, rfl, iteF (good (by rw [el]; exact y1) y2)⟩, fun y => ⟨_, rfl, iteT ⟨_, rfl, _, rfl, ix, fun x nx => ?_⟩⟩⟩
              exact bad (fail (by rw [el]; exact y)) _ x (s4.trans (same_upd nx)) upd_same
            · have z0 : i = 0 := by
                rcases Nat.eq_zero_or_pos i with h | h
                · exact h
                · exact absurd (decide_eq_true (show (0 : Int) < (i : Nat) by omega)) z
              have el : es.getLast? = none := by
                rw [List.getLast?_eq_none_iff]
                exact List.length_eq_zero_iff.mp (by omega)
              refine ⟨_, rfl, ?_⟩
              refine ⟨b, hd', e, .non, none, kvs, _, rfl, hb, .inl ⟨rfl, rfl⟩, hk4, hz, hv, fun y1 y2 => ⟨_, rfl, iteF (good (by rw [el]; exact y1) y2)⟩, fun y => ⟨_, rfl, iteT ⟨_, rfl, _, rfl, ix, fun x nx => ?_⟩⟩⟩
              exact bad (fail (by rw [el]; exact y)) _ x (s4.trans (same_upd nx)) upd_same
        · obtain ⟨s1, kvs, es, y3, y4, rfl, hk, hkl, hH, hel, het, hrec⟩ := p
          refine q ?_ _ s1
          rw [hrec, List.drop_of_length_le (by omega)]; rfl
      | _ => cases hsb
def spCO (K : PySem.W.Frag) (C : Addr) : Sp := fun vs H Q E => ∃ (v : V) (d : PyData), vs = [v, .non] ∧ Dq K H v d ∧
  (ordOk d = true → ∀ H', Same H H' → Q .non H') ∧ (ordOk d = false → ∀ f H' e, Same H H' → H' e = some (.xd [(("index" : Str), optV f)]) → E (.ref C) (some e) H')
theorem ok_check_order (bt : Bt mg) {C fI : Addr} (ex_InvalidOrder : PySem.Oxi.ExcTxt P K "InvalidOrder" C fI) (m_InvalidOrder : mg "InvalidOrder" = some (.ref C)) (a : AtX K mg "check_order" s_check_order ["value", "many"] [.none]) (c_is_short_list : Cl P w K mg base 1 "is_short_list" (spShort K)) (c_is_step : Cl P w K mg base 2 "is_step" (spStep K)) (c_takes_turn : Cl P w K mg base 1 "takes_turn" spTurn) (c_is_below : Cl P w K mg base 1 "is_below" spBelow) :
    ClXD P w K mg base 3 "check_order" (spCO K C) [.non] := by
  refine clGXD a (.cons rfl .nil) sc_check_order (fun vs H Q E h => ?_) (fun f cdv A outer s H vs Q E hg hr h => ?_)
  · obtain ⟨v, d, rfl, _⟩ := h
    rfl
  · obtain ⟨v, d, rfl, hd, q, qe⟩ := h
    refine ⟨_, (pss_cons (ps_if (pt_not (pt_val (pe_cl c_is_short_list hg hr (by decide) (by rfl) (pa_cons (pv 0) pa_nil)))) (pss_one (ps_raiseX rfl ex_InvalidOrder m_InvalidOrder hr (takes_of rfl rfl rfl rfl) (pa_cons pe_non pa_nil) (by rfl))) pss_nil)
      (pss_cons (ps_set (i := 2) sc_check_order.nd rfl (Or.inl rfl) pe_dnewK)
      (pss_one (ps_for (passes_of rfl) rfl (pi_enum (by rfl) bt.m_enumerate (pa_cons (pv 0) pa_nil)) (pg_tup rfl (pgs_cons (pg_name (i := 3) sc_check_order.nd rfl (Or.inl rfl)) (pgs_cons (pg_name (i := 4) sc_check_order.nd rfl (Or.inl rfl)) pgs_nil))) (pss_cons (ps_if (PW.pt (pw_or (pt_not (pt_val (pe_cl c_is_step hg hr (by decide) (by rfl) (pa_cons (pv 4) pa_nil)))) (pw_or1 (pt_not (pt_val (pe_cl c_is_below hg hr (by decide) (by rfl) (pa_cons (pe_ix ix_tup (pv 4) pe_int (fun _ _ => rfl)) (pa_cons (pv 1) pa_nil)))))))) (pss_one (ps_raiseX rfl ex_InvalidOrder m_InvalidOrder hr (takes_of rfl rfl rfl rfl) (pa_cons (pv 3) pa_nil) (by rfl))) pss_nil)
      (pss_one (ps_if (pt_not (pt_val (pe_cl c_takes_turn hg hr (by decide) (by rfl) (pa_cons (pv 2) (pa_cons (pe_ix ix_tup (pv 4) pe_int (fun _ _ => rfl)) (pa_cons (pe_ix ix_tup (pv 4) pe_int (fun _ _ => rfl)) pa_nil)))))) (pss_one (ps_raiseX rfl ex_InvalidOrder m_InvalidOrder hr (takes_of rfl rfl rfl rfl) (pa_cons (pv 3) pa_nil) (by rfl))) pss_nil))))))), ?_⟩
    refine ⟨_, rfl, v, d, rfl, hd, ?_⟩
    cases hsb : shortB d with
    | false =>
      refine ⟨_, rfl, iteT ⟨_, rfl, .inl rfl, fun e ne => ?_⟩⟩
      refine qe ?_ none _ e (same_upd ne) upd_same
      cases d with
      | list ds =>
        show (decide (ds.length ≤ 400) && ordEs ds []) = false
        rw [show decide (ds.length ≤ 400) = false from hsb]; rfl
      | _ => rfl
    | true =>
      cases d with
      | list ds =>
        have hl4 : ds.length ≤ 400 := of_decide_eq_true hsb
        obtain ⟨c, xs, ds', rfl, ed, hs, hD⟩ := hd.lstE rfl
        cases ed
        have hl : xs.length = ds.length := hD.length
        have er : ordOk (.list ds) = ordEs ds [] := by
          show (decide (ds.length ≤ 400) && ordEs ds []) = _
          rw [decide_eq_true hl4]; rfl
        rw [er] at q qe
        refine ⟨_, rfl, iteF ?_⟩
        intro hd' nd
        have sd := same_upd (o := .dK []) nd
        refine ⟨_, rfl, c, _, rfl, SqL.same_ hs sd, for_it (walk_enum (xs := xs))
          (fun i σ H' => Same H H' ∧ ∃ kvs es y3 y4, σ = [some (.ref c), some .non, some (.ref hd'), y3, y4] ∧ H' hd' = some (.dK kvs) ∧ kvs.length ≤ i ∧ HeldK kvs (heldB es) ∧ es.length = i ∧ ordEs ds [] = ordEs (ds.drop i) es)
          ⟨sd, [], [], _, _, rfl, upd_same, Nat.le_refl _, HeldK.nil, rfl, rfl⟩ (fun _ _ H' _ p => SqL.same_ hs p.1) (fun i x σ H1 H2 hi p y => ?_) (fun σ H1 p => ?_)⟩
        · obtain ⟨s1, kvs, es, y3, y4, rfl, hk, hkl, hH, hel, hrec⟩ := p
          obtain ⟨T, u, v, rfl, nT, rfl, e1, e2⟩ := y
          obtain ⟨di, hdi, hdq⟩ := hD.at_ e2
          have e1' : u = .int (i : Nat) := (Option.some.inj e1).symm
          subst e1'
          have s2 := s1.trans (same_upd (o := .tup [.int (i : Nat), v]) nT)
          have hk2 := same_upd (o := .tup [.int (i : Nat), v]) nT _ _ hk
          rw [drop_at hdi] at hrec
          have ix : IxV (.int ((i : Nat) : Int)) := .inr ⟨_, rfl, by omega⟩
          refine ⟨T, _, rfl, SqT.of upd_same, rfl, _, _, rfl, _, _, rfl, rfl, ?_⟩
          refine ⟨_, rfl, v, di, rfl, hdq.same s2, fun H3 s3 => ⟨_, rfl, ?_⟩⟩
          have s4 := s2.trans s3
          have hk4 := s3 _ _ hk2
          have bad : stepO es di = none → ∀ H' e, Same H H' → H' e = some (.xd [(("index" : Str), V.int ((i : Nat) : Int))]) → E (.ref C) (some e) H' := fun z H' e s he => qe (by rw [hrec, ord_bad z]) (some i) H' e s he
          cases hpr : parseO di with
          | none =>
            refine iteT ⟨_, rfl, _, rfl, ix, fun e ne => ?_⟩
            exact bad (by unfold stepO; rw [hpr]; rfl) _ e (s4.trans (same_upd ne)) upd_same
          | some e =>
            obtain ⟨rfl, e0⟩ := parseO_eq hpr
            obtain ⟨b, rfl, hb⟩ := dq_st (hdq.same s4)
            refine iteF ?_
            refine ⟨_, rfl, b, _, _, _, rfl, rfl, hb, atI_nat (j := 0) rfl, _, rfl, e.k, rfl, _, rfl, iteF ?_⟩
            have st : stepO es (stD e) = if turnOk es e = true then some e else none := by unfold stepO; rw [hpr]; rfl
            have hv := hH.at_ e.k
            have hz : kvs.length < sizeLine := small1000 (by omega)
            refine ⟨_, rfl, _, rfl, b, _, _, _, rfl, rfl, hb, atI_nat (j := 0) rfl, _, rfl, b, _, _, _, rfl, rfl, hb, atI_nat (j := 1) rfl, ?_⟩
            refine ⟨hd', kvs, e.k, e.d, _, rfl, hk4, hz, hv, fun y2 => ⟨_, rfl, iteF ⟨Same.off s4 nd off_upd, _, es ++ [e], _, _, rfl, upd_same, ?_, hH.put, ?_, ?_⟩⟩, fun y => ⟨_, rfl, iteT ⟨_, rfl, _, rfl, ix, fun x nx => ?_⟩⟩⟩
            · have := put_len kvs (Sum.inl e.k) (.bl e.d); omega
            · rw [List.length_append, hel]; rfl
            · rw [hrec]
              refine ord_go ?_
              rw [st, show turnOk es e = true from decide_eq_true y2]; rfl
            · refine bad ?_ _ x (s4.trans (same_upd nx)) upd_same
              rw [st]
              refine if_neg fun y3 => ?_
              have y4 : heldB es e.k = !e.d := of_decide_eq_true y3
              rw [y] at y4
              cases hh : e.d <;> rw [hh] at y4 <;> cases y4
        · obtain ⟨s1, kvs, es, y3, y4, rfl, hk, hkl, hH, hel, hrec⟩ := p
          refine q ?_ _ s1
          rw [hrec, List.drop_of_length_le (by omega)]; rfl
      | _ => cases hsb
def spIsR (K : PySem.W.Frag) : Sp := fun vs H Q _ => ∃ (v : V) (d : PyData), vs = [v] ∧ Dq K H v d ∧ ∀ H', Same H H' → Q (.bl (recOk d)) H'
theorem ok_is_record {C_InvalidRecord : Addr} (m_InvalidRecord : mg "InvalidRecord" = some (.ref C_InvalidRecord)) (xm : PySem.W.exmOne K (.ref C_InvalidRecord) (.ref C_InvalidRecord) = some true) (a : At K mg "is_record" s_is_record ["value"]) (c_check_record : ClXD P w K mg base 4 "check_record" (spCR K C_InvalidRecord) [.non]) : Cl P w K mg base 5 "is_record" (spIsR K) := by
  refine clG a sc_is_record (fun vs H Q E h => ?_) (fun f cdv A outer s H vs Q hg hr h => ?_)
  · obtain ⟨v, d, rfl, _⟩ := h
    rfl
  · obtain ⟨v, d, rfl, hd, q⟩ := h
    refine ⟨_, (pss_cons (ps_try_only (c := .ref C_InvalidRecord) rfl rfl ⟨(by rfl), by decide, .inl m_InvalidRecord⟩ takes_no (fun W pn xe tk pw => (pss_one (ps_expr (pe_clXDs c_check_record hg hr (by decide) (by rfl) (fun _ _ _ _ _ _ I c => tk _ _ (XE.of_call I (fun _ _ _ h => h) c)) (pa_cons (pv 0) pa_nil))))) (fun _ _ _ _ _ _ _ => (pss_one (ps_ret pe_bl))))
      (pss_one (ps_ret pe_bl))), ?_⟩
    refine ⟨_, rfl, v, d, rfl, hd, fun e H1 s1 => ?_, fun e f H1 x s1 hx => ?_⟩
    · have q' := q _ s1
      rw [e] at q'
      exact q'
    · have q' := q _ s1
      rw [e] at q'
      exact ⟨true, xm, fun _ a na => q', fun z => by cases z⟩
def spIsO (K : PySem.W.Frag) : Sp := fun vs H Q _ => ∃ (v : V) (d : PyData), vs = [v] ∧ Dq K H v d ∧ ∀ H', Same H H' → Q (.bl (ordOk d)) H'
theorem ok_is_order {C_InvalidOrder : Addr} (m_InvalidOrder : mg "InvalidOrder" = some (.ref C_InvalidOrder)) (xm : PySem.W.exmOne K (.ref C_InvalidOrder) (.ref C_InvalidOrder) = some true) (a : At K mg "is_order" s_is_order ["value"]) (c_check_order : ClXD P w K mg base 3 "check_order" (spCO K C_InvalidOrder) [.non]) : Cl P w K mg base 4 "is_order" (spIsO K) := by
  refine clG a sc_is_order (fun vs H Q E h => ?_) (fun f cdv A outer s H vs Q hg hr h => ?_)
  · obtain ⟨v, d, rfl, _⟩ := h
    rfl
  · obtain ⟨v, d, rfl, hd, q⟩ := h
    refine ⟨_, (pss_cons (ps_try_only (c := .ref C_InvalidOrder) rfl rfl ⟨(by rfl), by decide, .inl m_InvalidOrder⟩ takes_no (fun W pn xe tk pw => (pss_one (ps_expr (pe_clXDs c_check_order hg hr (by decide) (by rfl) (fun _ _ _ _ _ _ I c => tk _ _ (XE.of_call I (fun _ _ _ h => h) c)) (pa_cons (pv 0) pa_nil))))) (fun _ _ _ _ _ _ _ => (pss_one (ps_ret pe_bl))))
      (pss_one (ps_ret pe_bl))), ?_⟩
    refine ⟨_, rfl, v, d, rfl, hd, fun e H1 s1 => ?_, fun e f H1 x s1 hx => ?_⟩
    · have q' := q _ s1
      rw [e] at q'
      exact q'
    · have q' := q _ s1
      rw [e] at q'
      exact ⟨true, xm, fun _ a na => q', fun z => by cases z⟩
end
end K05

set_option Elab.async false
set_option linter.all false
set_option maxRecDepth 100000
set_option maxHeartbeats 4000000
namespace K05
open PySem PySem.Spec PyProof.Rows L2 Gd Rm
theorem small400 {n : Nat} (h : n ≤ 1000) : n ≤ sizeLine := Nat.le_of_lt (small1000 h)
theorem get_map_ref {as : List Addr} {i : Nat} {b : Addr} (h : as[i]? = some b) : (as.map V.ref)[i]? = some (.ref b) := by rw [List.getElem?_map, h]; rfl
theorem get_map_int {ns : List Int} {i : Nat} {b : Int} (h : ns[i]? = some b) : (ns.map V.int)[i]? = some (.int b) := by rw [List.getElem?_map, h]; rfl
theorem atI_end {xs : List V} {v : V} (h : xs[xs.length - 1]? = some v) : atI xs (-1) = some v := by
  have hn : xs ≠ [] := by
    intro e
    subst e
    simp at h
  have e := List.getLast?_eq_getElem? (l := xs)
  rw [h] at e
  have hz : xs.dropLast ++ [v] = xs := by
    have := List.dropLast_concat_getLast hn
    rw [List.getLast?_eq_some_getLast hn] at e
    rw [← Option.some.inj e]
    exact this
  rw [← hz]
  exact atI_last _ _
/-- a new list of new tuples, one more -/
structure Grown {α : Type} (f : α → List V) (H0 : Hp) (L : Addr) (es : List α) (H : Hp) : Prop where
  same : Same H0 H
  ls : Lst f H L es
theorem Grown.start {α : Type} {f : α → List V} {H0 : Hp} {L : Addr} (n : H0 L = none) : Grown f H0 L [] (upd H0 L (.lst [])) := ⟨same_upd n, [], upd_same, Tups.nil⟩
theorem Grown.more {α : Type} {f : α → List V} {H0 H : Hp} {L p : Addr} {es : List α} {e : α} (g : Grown f H0 L es H) (n : H0 L = none) (np : H p = none) :
    ∃ acc : List V, upd H p (.tup (f e)) L = some (.lst acc) ∧ acc.length = es.length ∧ Grown f H0 L (es ++ [e]) (upd (upd H p (.tup (f e))) L (.lst (acc ++ [.ref p]))) := by
  obtain ⟨s, as, h, t⟩ := g
  have pl : L ≠ p := ne_of_none h np
  have h1 : upd H p (.tup (f e)) L = some (.lst (as.map V.ref)) := (same_upd np) _ _ h
  refine ⟨as.map V.ref, h1, by rw [List.length_map]; exact t.1, Same.off (s.trans (same_upd np)) n off_upd, as ++ [p], ?_, ?_⟩
  · rw [upd_same, List.map_append]; rfl
  · refine Tups.snoc ((t.same (same_upd np)).off h1 off_upd) ?_
    rw [upd_ne pl.symm]
    exact upd_same
section
variable {P : Program} {w : World} {K : PySem.W.Frag} {mg : Str → Option Value} {base : Heap}
structure RecOk (keys : Int) (size : Nat) (es : List Ev) : Prop where
  valid : Valid es
  len : es.length = size
  key : ∀ e ∈ es, 0 ≤ e.k ∧ e.k < keys
  tick : ∀ e ∈ es, -(10 ^ 20) < e.t ∧ e.t < 10 ^ 20
def spRec : Sp := fun vs H Q _ => ∃ (r g : Addr) (n size : Nat) (keys : Int) (gs : List Int), vs = [.ref r, .int keys, .int (size : Int), .ref g] ∧ Reel H r n ∧ n + 2000 < most ∧ 0 < keys ∧ keys ≤ 1000 ∧ size ≤ 200 ∧
  H g = some (.lst (gs.map V.int)) ∧ g ≠ r ∧ 0 < gs.length ∧ gs.length ≤ 10 ∧ (∀ x ∈ gs, 0 ≤ x ∧ x ≤ 10 ^ 10) ∧
  ∀ (H' : Hp) (p : Addr) (es : List Ev), Off r H H' → H p = none → Reel H' r (n + 1000) → Lst evV H' p es → RecOk keys size es → Q (.ref p) H'
structure RecIn (H0 : Hp) (r g F Dn : Addr) (gs : List Int) (m : Nat) (keys : Int) (i : Nat) (tick : Int) (es : List Ev) (ns : List Int) (H : Hp) : Prop where
  Fr : F ≠ r
  Dr : Dn ≠ r
  FD : F ≠ Dn
  gr : g ≠ r
  nF : H0 F = none
  nD : H0 Dn = none
  gap0 : H0 g = some (.lst (gs.map V.int))
  off : Off r H0 H
  reel : Reel H r m
  gap : H g = some (.lst (gs.map V.int))
  found : Lst evV H F es
  down : H Dn = some (.lst (ns.map V.int))
  ok : RecOk keys i es
  dn : DownOk ns es
  key : ∀ k ∈ ns, 0 ≤ k ∧ k < keys
  nl : ns.length ≤ i
  last : ∀ e ∈ es, e.t ≤ tick
  tk : -(10 ^ 16) ≤ tick ∧ tick ≤ 10 ^ 16 + i * 10 ^ 10
section
variable {H0 H H' : Hp} {r g F Dn : Addr} {gs : List Int} {m m' : Nat} {keys : Int} {i : Nat} {tick : Int} {es : List Ev} {ns : List Int}
theorem RecIn.go (h : RecIn H0 r g F Dn gs m keys i tick es ns H) (o : Off r H H') (R : Reel H' r m') : RecIn H0 r g F Dn gs m' keys i tick es ns H' := by
  obtain ⟨x, y, z, hr, _⟩ := id h.reel
  exact { h with off := h.off.trans o, reel := R, gap := o _ _ h.gap h.gr, found := h.found.off hr h.Fr o, down := o _ _ h.down h.Dr }
theorem RecIn.same (h : RecIn H0 r g F Dn gs m keys i tick es ns H) (o : Same H H') : RecIn H0 r g F Dn gs m keys i tick es ns H' := h.go (Off.of o) (h.reel.same o)
theorem RecIn.push {p : Addr} {ns' : List Int} {e : Ev} (h : RecIn H0 r g F Dn gs m keys i tick es ns H) (np : upd H Dn (.lst (ns'.map V.int)) p = none)
    (dn : DownOk ns' (es ++ [e])) (hv : Valid (es ++ [e])) (hk : 0 ≤ e.k ∧ e.k < keys) (hns : ∀ k ∈ ns', 0 ≤ k ∧ k < keys) (nl : ns'.length ≤ i + 1) (ht : tick ≤ e.t) (tk : e.t ≤ 10 ^ 16 + ((i + 1 : Nat) : Int) * 10 ^ 10) (hi : i < 1000) :
    ∃ as : List Addr, upd (upd H Dn (.lst (ns'.map V.int))) p (.tup (evV e)) F = some (.lst (as.map V.ref)) ∧ as.length = i ∧
      RecIn H0 r g F Dn gs m keys (i + 1) e.t (es ++ [e]) ns' (upd (upd (upd H Dn (.lst (ns'.map V.int))) p (.tup (evV e))) F (.lst (as.map V.ref ++ [.ref p]))) := by
  obtain ⟨x, y, z, hr, hb⟩ := id h.reel
  obtain ⟨as, hF, hT⟩ := h.found
  have gD : g ≠ Dn := ne_of_none h.gap0 h.nD
  have gF : g ≠ F := ne_of_none h.gap0 h.nF
  have hr1 : upd H Dn (.lst (ns'.map V.int)) r = some (.lst [.int x, .int y, .int z]) := by rw [upd_ne h.Dr.symm]; exact hr
  have hF1 : upd H Dn (.lst (ns'.map V.int)) F = some (.lst (as.map V.ref)) := by rw [upd_ne h.FD]; exact hF
  have hg1 : upd H Dn (.lst (ns'.map V.int)) g = some (.lst (gs.map V.int)) := by rw [upd_ne gD]; exact h.gap
  have hT1 : Tups (upd H Dn (.lst (ns'.map V.int))) evV as es := hT.off h.down off_upd
  have hD1 : upd H Dn (.lst (ns'.map V.int)) Dn = some (.lst (ns'.map V.int)) := upd_same
  have o1 : Off r H0 (upd H Dn (.lst (ns'.map V.int))) := h.off.new h.nD
  generalize upd H Dn (.lst (ns'.map V.int)) = H1 at *
  have hF2 := (same_upd (o := .tup (evV e)) np) _ _ hF1
  have hr2 := (same_upd (o := .tup (evV e)) np) _ _ hr1
  have hg2 := (same_upd (o := .tup (evV e)) np) _ _ hg1
  have hD2 := (same_upd (o := .tup (evV e)) np) _ _ hD1
  have hp : upd H1 p (.tup (evV e)) p = some (.tup (evV e)) := upd_same
  have pF : p ≠ F := (ne_of_none hF1 np).symm
  have hl := h.ok.len
  have hal := hT.1
  refine ⟨as, hF2, by omega, ?_⟩
  refine { h with off := (o1.sameTrans (same_upd np)).new h.nF, reel := ⟨x, y, z, by rw [upd_ne h.Fr.symm]; exact hr2, hb⟩, gap := by rw [upd_ne gF]; exact hg2,
                  found := ⟨as ++ [p], by rw [upd_same, List.map_append]; rfl, Tups.snoc ((hT1.same (same_upd np)).off hF2 off_upd) (by rw [upd_ne pF]; exact hp)⟩,
                  down := by rw [upd_ne h.FD.symm]; exact hD2, ok := ⟨hv, by rw [List.length_append, hl]; rfl, fun x hx => ?_, fun x hx => ?_⟩, dn := dn, key := hns, nl := nl, last := fun x hx => ?_, tk := ⟨by have := h.tk.1; omega, tk⟩ }
  · rcases List.mem_append.mp hx with hx | hx
    · exact h.ok.key x hx
    · rw [List.mem_singleton.mp hx]; exact hk
  · rcases List.mem_append.mp hx with hx | hx
    · exact h.ok.tick x hx
    · rw [List.mem_singleton.mp hx]
      have := h.tk.1
      exact ⟨by omega, by omega⟩
  · rcases List.mem_append.mp hx with hx | hx
    · have := h.last x hx; omega
    · rw [List.mem_singleton.mp hx]; exact Int.le_refl _
theorem RecIn.mono (h : RecIn H0 r g F Dn gs m keys i tick es ns H) (l : m ≤ m') : RecIn H0 r g F Dn gs m' keys i tick es ns H := { h with reel := h.reel.mono l }
end
theorem ok__law_record (bt : Bt mg) (a : At K mg "_law_record" s__law_record ["_law_reel_here", "_law_keys", "_law_size", "_law_gaps"]) (c__law_spin : Cl P w K mg base 1 "_law_spin" spSpin) : Cl P w K mg base 2 "_law_record" spRec := by
  refine clG a sc__law_record (fun vs H Q E h => ?_) (fun f cdv A outer s H vs Q hg hr h => ?_)
  · obtain ⟨r, g, n, size, keys, gs, rfl, _⟩ := h
    rfl
  · obtain ⟨r, g, n, size, keys, gs, rfl, hR, hn, hk0, hk1, hs, hG, gr, g0, g1, g2, q⟩ := h
    have hn' : n + 2000 < 1000000000 := hn
    refine ⟨_, (pss_cons (ps_par3 (i := 4) (j := 5) (l := 6) rfl sc__law_record.nd rfl rfl rfl (by decide) (by decide) (by decide) rfl rfl rfl (pa_cons (pe_lst pa_nil) (pa_cons (pe_lst pa_nil) (pa_cons (pe_ix ix_list (pe_lst (pa_cons pe_int (pa_cons (pe_op op_sub pe_int (pe_op op_powW pe_int pe_int)) (pa_cons (pe_cl c__law_spin hg hr (by decide) (by rfl) (pa_cons (pv 0) (pa_cons (pe_op op_powW pe_int pe_int) pa_nil))) pa_nil)))) (pe_cl c__law_spin hg hr (by decide) (by rfl) (pa_cons (pv 0) (pa_cons pe_int pa_nil))) (fun _ _ => rfl)) pa_nil))) (by rfl))
      (pss_cons (ps_for PassesOwn.never rfl (pi_range1 (by rfl) bt.m_range (pa_cons (pv 2) pa_nil)) (pg_name (i := 7) sc__law_record.nd rfl (Or.inl rfl)) (pss_cons (ps_set (i := 8) sc__law_record.nd rfl (Or.inl rfl) (pe_cl c__law_spin hg hr (by decide) (by rfl) (pa_cons (pv 0) (pa_cons (pv 1) pa_nil))))
      (C8.pss_cut (ps_if (PW.pt (pw_and (pt_cmpR (op_neD hr.units) (pv 5) (pe_lst pa_nil) (nomark _)) (pw_and1 (pt_cmpR op_eq (pe_cl c__law_spin hg hr (by decide) (by rfl) (pa_cons (pv 0) (pa_cons pe_int pa_nil))) pe_int (nomark _))))) (pss_one (ps_set (i := 8) sc__law_record.nd rfl (Or.inl rfl) (pe_ix ix_list (pv 5) (pe_cl c__law_spin hg hr (by decide) (by rfl) (pa_cons (pv 0) (pa_cons (pe_callB call_len_seq (by rfl) bt.m_len (by decide +kernel) (pa_cons (pv 5) pa_nil)) pa_nil))) (fun _ _ => rfl)))) pss_nil)
      (pss_cons (ps_set (i := 6) sc__law_record.nd rfl (Or.inl rfl) (pe_op op_add (pv 6) (pe_ix ix_list (pv 3) (pe_cl c__law_spin hg hr (by decide) (by rfl) (pa_cons (pv 0) (pa_cons (pe_callB call_len_seq (by rfl) bt.m_len (by decide +kernel) (pa_cons (pv 3) pa_nil)) pa_nil))) (fun _ _ => rfl))))
      (pss_one (ps_if (pt_cmpR op_in_seq (pv 8) (pv 5) (by rfl)) (pss_cons (ps_expr (pe_bm PySem.F.plainAttrs_list PySem.F.slot_list_remove PySem.F.type_list_remove mt_remove (pv 5) (pa_cons (pv 8) pa_nil)))
      (pss_one (ps_expr (pe_bm PySem.F.plainAttrs_list PySem.F.slot_list_append PySem.F.type_list_append mt_append (pv 4) (pa_cons (pe_tup (pa_cons (pv 6) (pa_cons (pv 8) (pa_cons pe_str pa_nil)))) pa_nil))))) (pss_cons (ps_expr (pe_bm PySem.F.plainAttrs_list PySem.F.slot_list_append PySem.F.type_list_append mt_append (pv 5) (pa_cons (pv 8) pa_nil)))
      (pss_one (ps_expr (pe_bm PySem.F.plainAttrs_list PySem.F.slot_list_append PySem.F.type_list_append mt_append (pv 4) (pa_cons (pe_tup (pa_cons (pv 6) (pa_cons (pv 8) (pa_cons pe_str pa_nil)))) pa_nil)))))))))))
      (pss_one (ps_ret (pv 4))))), ?_⟩
    refine ⟨Nat.zero_le _, fun F nF => ⟨Nat.zero_le _, fun Dn nD => ?_⟩⟩
    have FD : F ≠ Dn := ne_of_none upd_same nD
    have s1 : Same H (upd (upd H F (.lst [])) Dn (.lst [])) := (same_upd nF).trans (same_upd nD)
    have hF1 : upd (upd H F (.lst [])) Dn (.lst []) F = some (.lst []) := by rw [upd_ne FD]; exact upd_same
    have hD1 : upd (upd H F (.lst [])) Dn (.lst []) Dn = some (.lst []) := upd_same
    have nD0 : H Dn = none := (same_upd nF).free nD
    obtain ⟨rx, ry, rz, hr0, _⟩ := id hR
    have Fr : F ≠ r := (ne_of_none hr0 nF).symm
    have Dr : Dn ≠ r := (ne_of_none hr0 nD0).symm
    have Fg : F ≠ g := (ne_of_none hG nF).symm
    have Dg : Dn ≠ g := (ne_of_none hG nD0).symm
    have hR1 := hR.same s1
    generalize upd (upd H F (.lst [])) Dn (.lst []) = H1 at s1 hF1 hD1 hR1
    -- [0, 0 - 10 ** 15, spin][spin]
    refine ⟨_, _, rfl, rfl, powW (n := 40) (k := 15) (by decide) (by decide), _, _, rfl, rfl, ?_⟩
    refine ⟨_, rfl, _, _, rfl, rfl, powW (n := 40) (k := 14) (by decide) (by decide), r, _, n, rfl, by decide, by decide, by show n < 1000000000; omega, hR1, fun d1 H2 d10 d11 hR2 o2 => ?_⟩
    refine ⟨by show 3 ≤ sizeLine; decide, fun L nL => ?_⟩
    refine ⟨_, rfl, r, 3, n + 1, rfl, by decide, by decide, by show n + 1 < 1000000000; omega, hR2.same (same_upd nL), fun d2 H3 d20 d21 hR3 o3 => ?_⟩
    have Lr : L ≠ r := by
      obtain ⟨_, _, _, hr2, _⟩ := id hR2
      exact (ne_of_none hr2 nL).symm
    have hL3 : H3 L = some (.lst ([0, 0 - 10 ^ 15, d1].map V.int)) := o3 _ _ upd_same Lr
    obtain ⟨t0, at0, m0⟩ := getI (ns := [0, 0 - 10 ^ 15, d1]) d20 (by show d2 < 3; exact d21)
    have bt0 : -(10 ^ 16) ≤ t0 ∧ t0 ≤ 10 ^ 16 + ((0 : Nat) : Int) * 10 ^ 10 := by
      have hm := List.mem_of_getElem? m0
      have d11' : d1 < 10 ^ 14 := d11
      simp only [List.mem_cons, List.mem_nil_iff, or_false] at hm
      omega
    have hF3 : Lst evV H3 F [] := by
      obtain ⟨_, _, _, hr2, _⟩ := id hR2
      refine ⟨[], ?_, Tups.nil⟩
      exact o3 _ _ ((same_upd nL) _ _ (o2 _ _ hF1 Fr)) Fr
    have hD3 : H3 Dn = some (.lst (([] : List Int).map V.int)) := o3 _ _ ((same_upd nL) _ _ (o2 _ _ hD1 Dr)) Dr
    have hG3 : H3 g = some (.lst (gs.map V.int)) := o3 _ _ ((same_upd nL) _ _ (o2 _ _ (s1 _ _ hG) gr)) gr
    have I0 : RecIn H r g F Dn gs (n + 2 + 4 * 0) keys 0 t0 [] [] H3 :=
      ⟨Fr, Dr, FD, gr, nF, nD0, hG, (Off.of s1).trans (o2.trans ((Off.of (same_upd nL)).trans o3)), hR3, hG3, hF3, hD3,
        ⟨Valid.nil, rfl, fun e h => by simp at h, fun e h => by simp at h⟩, DownOk.nil, fun k h => by simp at h, Nat.le_refl _, fun e h => by simp at h, bt0⟩
    refine ⟨L, _, d2, .int t0, rfl, rfl, SqL.of hL3, at0, _, _, _, rfl, ?_⟩
    refine ⟨_, rfl, (size : Int), rfl, by omega, by omega, for_it walk_range (fun i σ H' => ∃ tick es ns y7 y8, σ = [some (.ref r), some (.int keys), some (.int (size : Int)), some (.ref g), some (.ref F), some (.ref Dn), some (.int tick), y7, y8] ∧
      RecIn H r g F Dn gs (n + 2 + 4 * i) keys i tick es ns H') ⟨t0, [], [], _, _, rfl, I0⟩ (fun _ _ _ _ _ => True.intro) (fun i x σ H4 H5 hi p y => ?_) (fun σ H4 p => ?_)⟩
    · obtain ⟨tick, es, ns, y7, y8, rfl, R⟩ := p
      obtain ⟨rfl, rfl⟩ := y
      have hi' : i < size := by omega
      -- key = spin(reel, keys)
      refine ⟨_, rfl, _, rfl, r, keys, n + 2 + 4 * i, rfl, hk0, Int.lt_of_le_of_lt hk1 (by decide), by show _ < 1000000000; omega, R.reel, fun k H5 k0 k1 R5 o5 => ?_⟩
      have R1 := R.go o5 R5
      clear R R5 o5
      refine ⟨fun σ' H' => ∃ k : Int, σ' = [some (.ref r), some (.int keys), some (.int (size : Int)), some (.ref g), some (.ref F), some (.ref Dn), some (.int tick), some (.int (0 + (i : Int))), some (.int k)] ∧ 0 ≤ k ∧ k < keys ∧ RecIn H r g F Dn gs (n + 2 + 4 * i + 3) keys i tick es ns H', ?_, ?_⟩
      · -- if down != [] and spin(reel, 2) == 0
        refine ⟨_, rfl, Nat.zero_le _, fun e ne => ?_⟩
        have R2 := R1.same (same_upd (o := .lst []) ne)
        refine ⟨_, _, .lst (SqL.of R2.down) (dpInts ns), .lst (SqL.of upd_same) .nil, shaped_ints ns, shaped_nil, _, rfl, ?_⟩
        rw [eqv_nil]
        cases ns with
        | nil => exact iteF (iteF ⟨k, rfl, k0, k1, R2.mono (by omega)⟩)
        | cons d0 dr =>
          refine iteT ⟨_, rfl, r, 2, n + 2 + 4 * i + 1, rfl, by decide, by decide, by show _ < 1000000000; omega, R2.reel, fun b H6 b0 b1 R6 o6 => ⟨rfl, _, rfl, ite2 (fun z => ?_) (fun z => ?_)⟩⟩
          · have R3 := R2.go o6 R6
            refine ⟨_, rfl, _, rfl, _, rfl, Dn, _, rfl, .inl (SqL.of R3.down), r, _, n + 2 + 4 * i + 1 + 1, rfl, ?_, ?_, by show _ < 1000000000; omega, R3.reel, fun c H7 c0 c1 R7 o7 => ?_⟩
            · rw [List.length_map, List.length_cons]; omega
            · have := R3.nl
              rw [List.length_map]
              have h2 : (10 : Int) ^ 40 > 1000 := by decide
              omega
            · have R4 := R3.go o7 R7
              rw [List.length_map] at c1
              obtain ⟨k', ak, mk⟩ := getI (ns := d0 :: dr) c0 c1
              have hk' := R4.key k' (List.mem_of_getElem? mk)
              exact ⟨Dn, _, c, _, rfl, rfl, SqL.of R4.down, ak, k', rfl, hk'.1, hk'.2, R4.mono (by omega)⟩
          · exact ⟨k, rfl, k0, k1, (R2.go o6 R6).mono (by omega)⟩
      · rintro σ' H' ⟨k, rfl, k0, k1, R⟩
        refine ⟨_, rfl, _, rfl, _, rfl, _, rfl, g, _, rfl, .inl (SqL.of R.gap), r, _, n + 2 + 4 * i + 3, rfl, ?_, ?_, by show _ < 1000000000; omega, R.reel, fun c H6 c0 c1 R6 o6 => ?_⟩
        · rw [List.length_map]; omega
        · rw [List.length_map]
          have h2 : (10 : Int) ^ 40 > 1000 := by decide
          omega
        · have R2 := R.go o6 R6
          rw [List.length_map] at c1
          obtain ⟨dv, adv, mdv⟩ := getI (ns := gs) c0 c1
          have hdv := g2 dv (List.mem_of_getElem? mdv)
          refine ⟨g, _, c, _, rfl, rfl, SqL.of R2.gap, adv, _, _, rfl, rfl, ?_⟩
          have htk := R2.tk
          have hup : tick + dv ≤ 10 ^ 16 + ((i + 1 : Nat) : Int) * 10 ^ 10 := by
            have e : ((i + 1 : Nat) : Int) * 10 ^ 10 = (i : Int) * 10 ^ 10 + 10 ^ 10 := by rw [Int.natCast_add, Int.add_mul]; rfl
            omega
          refine ⟨_, rfl, _, rfl, Dn, _, rfl, .inl (SqL.of R2.down), rfl, flat_ints ns, _, rfl, ?_⟩
          show (if inV (.int k) (ns.map V.int) = true then _ else _)
          rw [inv_int]
          have hlast : ∀ e' ∈ es, e'.t ≤ tick + dv := fun e' he => by have := R2.last e' he; omega
          have eqm : n + 2 + 4 * (i + 1) = n + 2 + 4 * i + 3 + 1 := by omega
          refine ite2 (fun z => ?_) (fun z => ?_)
          · have zm : k ∈ ns := of_decide_eq_true z
            obtain ⟨j, hj⟩ := List.getElem?_of_mem zm
            refine ⟨_, rfl, .inl ⟨rfl, _, SqL.of R2.down⟩, _, rfl, Dn, ns, k, j, rfl, rfl, R2.down, hj, first_ix R2.dn.nd hj, ?_⟩
            have hF := R2.found
            refine ⟨_, rfl, ?_, _, rfl, _, rfl, (by show 3 ≤ sizeLine; decide), fun p np => ?_⟩
            · obtain ⟨as, hFa, _⟩ := hF
              exact .inl ⟨rfl, _, SqL.of (by rw [upd_ne R2.FD]; exact hFa)⟩
            · obtain ⟨as, h1, h2, R3⟩ := R2.push (e := ⟨tick + dv, k, false⟩) np (R2.dn.up hj) (R2.ok.valid.snoc k0 ((R2.dn.mem k).mp zm) hlast) ⟨k0, k1⟩
                (fun x hx => R2.key x ((mem_eraseIdx R2.dn.nd hj x).mp hx).2) (by have := R2.nl; have := List.length_eraseIdx_le ns j; omega) (by show tick ≤ tick + dv; omega) hup (by omega)
              refine ⟨F, _, .ref p, rfl, rfl, h1, by rw [List.length_map, h2]; exact small1000 (by omega), tick + dv, es ++ [⟨tick + dv, k, false⟩], ns.eraseIdx j, _, _, rfl, ?_⟩
              rw [eqm]
              exact R3
          · have zm : ¬ k ∈ ns := fun q => z (decide_eq_true q)
            refine ⟨_, rfl, .inl ⟨rfl, _, SqL.of R2.down⟩, _, rfl, Dn, _, .int k, rfl, rfl, R2.down, by rw [List.length_map]; have := R2.nl; exact small1000 (by omega), ?_⟩
            have hF := R2.found
            have emap : (ns.map V.int) ++ [V.int k] = (ns ++ [k]).map V.int := by rw [List.map_append]; rfl
            rw [emap]
            refine ⟨_, rfl, ?_, _, rfl, _, rfl, (by show 3 ≤ sizeLine; decide), fun p np => ?_⟩
            · obtain ⟨as, hFa, _⟩ := hF
              exact .inl ⟨rfl, _, SqL.of (by rw [upd_ne R2.FD]; exact hFa)⟩
            · obtain ⟨as, h1, h2, R3⟩ := R2.push (e := ⟨tick + dv, k, true⟩) np (R2.dn.down zm) (R2.ok.valid.snoc k0 (R2.dn.not zm) hlast) ⟨k0, k1⟩
                (fun x hx => by
                  rcases List.mem_append.mp hx with hx | hx
                  · exact R2.key x hx
                  · rw [List.mem_singleton.mp hx]; exact ⟨k0, k1⟩) (by rw [List.length_append]; have := R2.nl; simp; omega) (by show tick ≤ tick + dv; omega) hup (by omega)
              refine ⟨F, _, .ref p, rfl, rfl, h1, by rw [List.length_map, h2]; exact small1000 (by omega), tick + dv, es ++ [⟨tick + dv, k, true⟩], ns ++ [k], _, _, rfl, ?_⟩
              rw [eqm]
              exact R3
    · obtain ⟨tick, es, ns, y7, y8, rfl, R⟩ := p
      have e : ((size : Int)).toNat = size := Int.toNat_natCast size
      rw [e] at R
      exact ⟨_, rfl, q H4 F es R.off nF (R.reel.mono (by omega)) R.found R.ok⟩
end
end K05

set_option Elab.async false
set_option linter.all false
set_option maxRecDepth 100000
set_option maxHeartbeats 8000000
namespace K05
open PySem PySem.Spec PyProof.Rows L2 Gd Rm
def btwB (lo hi : Int) : PyData → Bool
  | .int i => decide (lo ≤ i) && decide (i ≤ hi)
  | _ => false
def itB (m : Int) : PyData → Bool
  | .tuple [.int t, .int k, .str _] => decide (t.natAbs ≤ 10 ^ 60) && decide (k < m)
  | .tuple [.int k, .str _] => decide (k < m)
  | _ => true
def itOk (m : Int) : PyData → Prop
  | .list ds => ∀ d ∈ ds, itB m d = true
  | _ => True
/-- what a fault's telling says -/
def Told (r : V) (b : Bool) : Prop := (b = true ∧ r = .str ("fine" : Str)) ∨ (b = false ∧ (r = .non ∨ ∃ i : Int, r = .int i))
theorem way_ix (b : Bool) : atI [V.str ("down" : String), V.str ("up" : String)] (if b = true then 1 else 0) = some (.str (wayS (!b))) := by cases b <;> decide +kernel
theorem is_way (b : Bool) : isWay (wayS b) := by cases b <;> decide +kernel
theorem way_back (b : Bool) : decide (wayS b = ("down" : Str)) = b := by cases b <;> decide +kernel
theorem pr_none3 {t k : Int} {y : PyData} (h : kindS y ≠ "str") : parseR (.tuple [.int t, .int k, y]) = none := by
  cases y with
  | str c => exact absurd rfl h
  | _ => rfl
theorem pr_int1 {a b c : PyData} (h : intB a = false) : parseR (.tuple [a, b, c]) = none := by
  have e := parse_ev (a := a) (b := b) (c := c)
  rw [h, Bool.false_and] at e
  exact Option.not_isSome_iff_eq_none.mp (by rw [e]; decide)
theorem pr_int2 {a b c : PyData} (h : intB b = false) : parseR (.tuple [a, b, c]) = none := by
  have e := parse_ev (a := a) (b := b) (c := c)
  rw [po_int h, show (none : Option Ev).isSome = false from rfl, Bool.and_false] at e
  exact Option.not_isSome_iff_eq_none.mp (by rw [e]; decide)
section
variable {P : Program} {w : World} {K : PySem.W.Frag} {mg : Str → Option Value} {base : Heap}
def spNum (K : PySem.W.Frag) : Sp := fun vs H Q _ => ∃ (v : V) (d : PyData) (lo hi : Int), vs = [v, .int lo, .int hi] ∧ Dq K H v d ∧ Q (.bl (btwB lo hi d)) H
theorem ok__law_is_number (bt : Bt mg) (a : At K mg "_law_is_number" s__law_is_number ["_law_value", "_law_least", "_law_most"]) : Cl P w K mg base 1 "_law_is_number" (spNum K) := by
  refine clG a sc__law_is_number (fun vs H Q E h => ?_) (fun f cdv A outer s H vs Q hg hr h => ?_)
  · obtain ⟨v, d, lo, hi, rfl, _⟩ := h
    rfl
  · obtain ⟨v, d, lo, hi, rfl, hd, q⟩ := h
    refine ⟨_, (pss_one (ps_ret (pe_and (pe_callB call_isi (by rfl) bt.m_isinstance (by decide +kernel) (pa_cons (pv 0) (pa_cons (pe_bltn (v := .ty "int") (by rfl) bt.m_int (by decide +kernel) rfl) pa_nil))) (pe_and (pe_not (pe_callB call_isi (by rfl) bt.m_isinstance (by decide +kernel) (pa_cons (pv 0) (pa_cons (pe_bltn (v := .ty "bool") (by rfl) bt.m_bool (by decide +kernel) rfl) pa_nil)))) (pe_one (pe_chain op_le op_le (pv 1) (pv 0) (pv 2))))))), ?_⟩
    have ty := hd.ty
    cases d with
    | int i =>
      cases hd
      refine ⟨_, rfl, _, _, _, _, true, rfl, .ty "int", ty, kit_ty (show kitB "int" "int" = some true by decide +kernel), _, rfl, iteT ?_⟩
      refine ⟨_, rfl, _, _, _, _, false, rfl, .ty "bool", ty, kit_ty (show kitB "int" "bool" = some false by decide +kernel), _, rfl, _, rfl, iteT ?_⟩
      have q' : Q (.bl (decide (lo ≤ i) && decide (i ≤ hi))) H := q
      refine ⟨_, rfl, _, rfl, _, _, rfl, rfl, ?_⟩
      by_cases h1 : lo ≤ i
      · refine ⟨true, congrArg V.bl (decide_eq_true h1), iteT ⟨_, rfl, _, _, rfl, rfl, ?_⟩⟩
        rw [decide_eq_true h1, Bool.true_and] at q'
        exact q'
      · refine ⟨false, congrArg V.bl (decide_eq_false h1), iteF ?_⟩
        rw [decide_eq_false h1, Bool.false_and] at q'
        exact q'
    | bool b =>
      refine ⟨_, rfl, _, _, _, _, true, rfl, .ty "int", ty, kit_ty (show kitB "bool" "int" = some true by decide +kernel), _, rfl, iteT ?_⟩
      exact ⟨_, rfl, _, _, _, _, true, rfl, .ty "bool", ty, kit_ty (show kitB "bool" "bool" = some true by decide +kernel), _, rfl, _, rfl, iteF q⟩
    | none => exact ⟨_, rfl, _, _, _, _, false, rfl, .ty "int", ty, kit_ty (show kitB "NoneType" "int" = some false by decide +kernel), _, rfl, iteF q⟩
    | str => exact ⟨_, rfl, _, _, _, _, false, rfl, .ty "int", ty, kit_ty (show kitB "str" "int" = some false by decide +kernel), _, rfl, iteF q⟩
    | list => exact ⟨_, rfl, _, _, _, _, false, rfl, .ty "int", ty, kit_ty (show kitB "list" "int" = some false by decide +kernel), _, rfl, iteF q⟩
    | tuple => exact ⟨_, rfl, _, _, _, _, false, rfl, .ty "int", ty, kit_ty (show kitB "tuple" "int" = some false by decide +kernel), _, rfl, iteF q⟩
    | dict => exact ⟨_, rfl, _, _, _, _, false, rfl, .ty "int", ty, kit_ty (show kitB "dict" "int" = some false by decide +kernel), _, rfl, iteF q⟩
def befV : Option Ev → V
  | none => .non
  | some e => .int e.t
def spRF (K : PySem.W.Frag) : Sp := fun vs H Q _ => ∃ (v : V) (d : PyData) (m : Int), vs = [v, .int m] ∧ Dq K H v d ∧ itOk m d ∧ ∀ H' r, Same H H' → Told r (recOk d) → Q r H'
theorem ok__law_record_fault (bt : Bt mg) (a : At K mg "_law_record_fault" s__law_record_fault ["_law_value", "_law_keys"]) (c__law_is_number : Cl P w K mg base 1 "_law_is_number" (spNum K)) : Cl P w K mg base 2 "_law_record_fault" (spRF K) := by
  refine clG a sc__law_record_fault (fun vs H Q E h => ?_) (fun f cdv A outer s H vs Q hg hr h => ?_)
  · obtain ⟨v, d, m, rfl, _⟩ := h
    rfl
  · obtain ⟨v, d, m, rfl, hd, hit, q⟩ := h
    refine ⟨_, (pss_cons (ps_if (PW.pt (pw_or (pt_not (pt_val (pe_callB call_isi (by rfl) bt.m_isinstance (by decide +kernel) (pa_cons (pv 0) (pa_cons (pe_bltn (v := .ty "list") (by rfl) bt.m_list (by decide +kernel) rfl) pa_nil))))) (pw_or1 (pt_cmpR op_gt (pe_callB call_len_seq (by rfl) bt.m_len (by decide +kernel) (pa_cons (pv 0) pa_nil)) pe_int (nomark _))))) (pss_one (ps_ret pe_non)) pss_nil)
      (pss_cons (ps_par3 (i := 2) (j := 3) (l := 4) rfl sc__law_record_fault.nd rfl rfl rfl (by decide) (by decide) (by decide) rfl rfl rfl (pa_cons (pe_lst pa_nil) (pa_cons pe_non (pa_cons (pe_op op_mulW (pe_op op_powW pe_int pe_int) (pe_op op_powW pe_int pe_int)) pa_nil))) (by rfl))
      (pss_cons (ps_for PassesOwn.never rfl (pi_enum (by rfl) bt.m_enumerate (pa_cons (pv 0) pa_nil)) (pg_tup rfl (pgs_cons (pg_name (i := 5) sc__law_record_fault.nd rfl (Or.inl rfl)) (pgs_cons (pg_name (i := 6) sc__law_record_fault.nd rfl (Or.inl rfl)) pgs_nil))) (pss_cons (ps_if (PW.pt (pw_or (pt_not (pt_val (pe_callB call_isi (by rfl) bt.m_isinstance (by decide +kernel) (pa_cons (pv 6) (pa_cons (pe_bltn (v := .ty "tuple") (by rfl) bt.m_tuple (by decide +kernel) rfl) pa_nil))))) (pw_or (pt_cmpR op_ne (pe_callB call_len_seq (by rfl) bt.m_len (by decide +kernel) (pa_cons (pv 6) pa_nil)) pe_int (nomark _)) (pw_or1 (pt_not (pt_val (pe_cl c__law_is_number hg hr (by decide) (by rfl) (pa_cons (pe_ix ix_tup (pv 6) pe_int (fun _ _ => rfl)) (pa_cons (pe_op op_sub pe_int (pv 4)) (pa_cons (pv 4) pa_nil)))))))))) (pss_one (ps_ret (pv 5))) pss_nil)
      (pss_cons (ps_asg (pv 6) (pg_tup rfl (pgs_cons (pg_name (i := 7) sc__law_record_fault.nd rfl (Or.inl rfl)) (pgs_cons (pg_name (i := 8) sc__law_record_fault.nd rfl (Or.inl rfl)) (pgs_cons (pg_name (i := 9) sc__law_record_fault.nd rfl (Or.inl rfl)) pgs_nil)))))
      (pss_cons (ps_if (PW.pt (pw_or (PW.pt (pw_and (pt_cmpR op_notN (pv 3) pe_non (nomark _)) (pw_and1 (pt_cmpR op_lt (pv 7) (pv 3) (nomark _))))) (pw_or1 (pt_not (pt_val (pe_cl c__law_is_number hg hr (by decide) (by rfl) (pa_cons (pv 8) (pa_cons pe_int (pa_cons (pe_op op_sub (pv 1) pe_int) pa_nil))))))))) (pss_one (ps_ret (pv 5))) pss_nil)
      (pss_cons (ps_if (PW.pt (pw_or (pt_not (pt_val (pe_callB call_isi (by rfl) bt.m_isinstance (by decide +kernel) (pa_cons (pv 9) (pa_cons (pe_bltn (v := .ty "str") (by rfl) bt.m_str (by decide +kernel) rfl) pa_nil))))) (pw_or1 (pt_cmpR op_ne (pv 9) (pe_ix ix_list (pe_lst (pa_cons pe_str (pa_cons pe_str pa_nil))) (pe_callTy call_int1 (by rfl) bt.m_int (by decide +kernel) (pa_cons (pe_cmpR op_in_seq (pv 8) (pv 2) (by rfl)) pa_nil)) (fun _ _ => rfl)) (nomark _))))) (pss_one (ps_ret (pv 5))) pss_nil)
      (pss_cons (ps_set (i := 3) sc__law_record_fault.nd rfl (Or.inl rfl) (pv 7))
      (pss_one (ps_if (pt_cmpR op_eq (pv 9) pe_str (nomark _)) (pss_one (ps_expr (pe_bm PySem.F.plainAttrs_list PySem.F.slot_list_append PySem.F.type_list_append mt_append (pv 2) (pa_cons (pv 8) pa_nil)))) (pss_one (ps_expr (pe_bm PySem.F.plainAttrs_list PySem.F.slot_list_remove PySem.F.type_list_remove mt_remove (pv 2) (pa_cons (pv 8) pa_nil))))))))))))
      (pss_one (ps_ret pe_str))))), ?_⟩
    by_cases hk : kindS d = "list"
    · obtain ⟨c, xs, ds, rfl, rfl, hs, hD⟩ := hd.lstE hk
      have hl : xs.length = ds.length := hD.length
      have hit' : ∀ d ∈ ds, itB m d = true := hit
      refine ⟨_, rfl, _, _, _, _, true, rfl, .ty "list", hd.ty, kit_ty (kit_lstT hk), _, rfl, iteF ?_⟩
      refine ⟨_, rfl, c, _, rfl, .inl hs, _, _, rfl, rfl, ?_⟩
      by_cases h4 : ds.length ≤ 400
      · refine ⟨false, congrArg V.bl (decide_eq_false (by omega)), iteF ?_⟩
        have er : recOk (.list ds) = recEs ds [] := by
          show (decide (ds.length ≤ 400) && recEs ds []) = _
          rw [decide_eq_true h4]; rfl
        rw [er] at q
        refine ⟨Nat.zero_le _, fun D nD => ?_⟩
        have sD := same_upd (o := .lst []) nD
        have hD0 := upd_same (H := H) (a := D) (o := .lst [])
        refine ⟨_, _, rfl, rfl, powW (n := 4) (k := 60) (by decide) (by decide), _, _, rfl, rfl, powW (n := 4) (k := 60) (by decide) (by decide), _, _, rfl, rfl, wide_mul (a := 240) (b := 240) (by decide) (by decide) (by decide) (by decide) (by decide), ?_⟩
        refine ⟨_, _, _, rfl, ?_⟩
        have efar : (10 : Int) ^ Int.toNat 60 * 10 ^ Int.toNat 60 = 10 ^ 120 := by decide +kernel
        dsimp only
        rw [efar]
        refine ⟨_, rfl, c, _, rfl, SqL.same_ hs sD, for_it (walk_enum (xs := xs)) (fun i σ H' => Same H H' ∧ ∃ es ns y5 y6 y7 y8 y9, σ = [some (.ref c), some (.int m), some (.ref D), some (befV es.getLast?), some (.int (10 ^ 120)), y5, y6, y7, y8, y9] ∧ H' D = some (.lst ((ns : List Int).map V.int)) ∧ DownOk ns es ∧ ns.length ≤ i ∧ es.length = i ∧ recEs ds [] = recEs (ds.drop i) es)
          ⟨sD, [], [], _, _, _, _, _, rfl, hD0, DownOk.nil, Nat.le_refl _, rfl, rfl⟩ (fun _ _ H' _ p => SqL.same_ hs p.1) (fun i x σ H1 H2 hi p y => ?_) (fun σ H1 p => ?_)⟩
        · obtain ⟨s1, es, ns, y5, y6, y7, y8, y9, rfl, hDn, dn, nl, hel, hrec⟩ := p
          obtain ⟨T, u, v, rfl, nT, rfl, e1, e2⟩ := y
          obtain ⟨di, hdi, hdq0⟩ := hD.at_ e2
          have hitd := hit' di (List.mem_of_getElem? hdi)
          have e1' : u = .int (i : Nat) := (Option.some.inj e1).symm
          subst e1'
          have sT := same_upd (o := .tup [.int (i : Nat), v]) nT
          have s2 := s1.trans sT
          have hDn2 := sT _ _ hDn
          have hdq := hdq0.same s2
          rw [drop_at hdi] at hrec
          have bad : stepR es di = none → ∀ H', Same H H' → Q (.int ((i : Nat) : Int)) H' := fun z H' s => q H' _ s (.inr ⟨by rw [hrec, rec_bad z], .inr ⟨_, rfl⟩⟩)
          have badP : parseR di = none → ∀ H', Same H H' → Q (.int ((i : Nat) : Int)) H' := fun z => bad (by unfold stepR; rw [z]; rfl)
          refine ⟨T, _, rfl, SqT.of upd_same, rfl, _, _, rfl, _, _, rfl, rfl, ?_⟩
          by_cases kt : kindS di = "tuple"
          · obtain ⟨b, ys, zs, rfl, rfl, hsb, hDb⟩ := hdq.tupE kt
            have hl2 : ys.length = zs.length := hDb.length
            refine ⟨_, rfl, _, _, _, _, true, rfl, .ty "tuple", hdq.ty, kit_ty (kit_tupT kt), _, rfl, iteF ?_⟩
            refine ⟨_, rfl, b, _, rfl, .inr hsb, rfl, ?_⟩
            by_cases h3 : zs.length = 3
            · refine ⟨false, congrArg V.bl (show (!decide (V.int (ys.length : Nat) = V.int 3)) = false by rw [decide_eq_true (by rw [hl2, h3]; rfl)]; rfl), iteF ?_⟩
              obtain ⟨t, k, w', vt, vk, vw, rfl, rfl, hdt, hdk, hdw⟩ := dq_three hDb h3
              refine ⟨_, rfl, b, _, _, _, rfl, rfl, hsb, atI_nat (j := 0) rfl, _, rfl, _, _, rfl, rfl, _, rfl, vt, t, _, _, rfl, hdt, ?_⟩
              cases ht : btwB (0 - 10 ^ 120) (10 ^ 120) t with
              | false =>
                refine ⟨_, rfl, iteT ⟨_, rfl, ?_⟩⟩
                by_cases hp : parseR (.tuple [t, k, w']) = none
                · exact badP hp _ s2
                · obtain ⟨e, he⟩ := Option.ne_none_iff_exists'.mp hp
                  obtain ⟨ee, _⟩ := parseR_eq he
                  cases ee
                  have h1 : (decide (e.t.natAbs ≤ 10 ^ 60) && decide (e.k < m)) = true := hitd
                  rw [Bool.and_eq_true, decide_eq_true_eq] at h1
                  have h2 : (decide (0 - 10 ^ 120 ≤ e.t) && decide (e.t ≤ 10 ^ 120)) = false := ht
                  rw [decide_eq_true (by omega), decide_eq_true (by omega)] at h2
                  cases h2
              | true =>
                refine ⟨_, rfl, iteF ?_⟩
                cases t with
                | int t =>
                  cases hdt
                  refine ⟨_, rfl, b, _, rfl, hsb, rfl, _, _, rfl, _, _, rfl, _, _, rfl, rfl, ?_⟩
                  have lastN : es.getLast? = none → befV es.getLast? = .non := fun z => by rw [z]; rfl
                  have lastS : ∀ e', es.getLast? = some e' → befV es.getLast? = .int e'.t := fun e' z => by rw [z]; rfl
                  have late : ∀ e', es.getLast? = some e' → t < e'.t → stepR es (.tuple [.int t, k, w']) = none := fun e' z y => by
                    unfold stepR
                    cases hp : parseR (.tuple [.int t, k, w']) with
                    | none => rfl
                    | some e =>
                      obtain ⟨ee, _⟩ := parseR_eq hp
                      have et : t = e.t := by cases ee; rfl
                      show (if (lastOk es.getLast? e && turnOk es e) = true then some e else none) = none
                      refine if_neg fun x => ?_
                      rw [Bool.and_eq_true, z] at x
                      have := of_decide_eq_true (p := e'.t ≤ e.t) x.1
                      omega
                  have fine : (∀ e', es.getLast? = some e' → ¬ t < e'.t) → ∀ (k' : Int) (d' : Bool), lastOk es.getLast? ⟨t, k', d'⟩ = true := fun z k' d' => by
                    cases hgl : es.getLast? with
                    | none => rfl
                    | some e' => exact decide_eq_true (show e'.t ≤ t by have := z e' hgl; omega)
                  have hgl : es.getLast? = none ∨ ∃ e', es.getLast? = some e' := by
                    cases es.getLast? with
                    | none => exact .inl rfl
                    | some e' => exact .inr ⟨e', rfl⟩
                  refine (fun (G : (∀ e', es.getLast? = some e' → ¬ t < e'.t) → _) => Or.elim hgl
                    (fun z => ⟨_, rfl, rfl, false, congrArg V.bl (by rw [lastN z]; rfl), iteF (iteF (G fun e' y => by rw [z] at y; cases y))⟩)
                    (fun ⟨e', z⟩ => Or.elim (Decidable.em (t < e'.t))
                      (fun y => ⟨_, rfl, rfl, true, congrArg V.bl (by rw [lastS e' z]; rfl), iteT ⟨_, rfl, _, rfl, _, _, rfl, lastS e' z, true, congrArg V.bl (decide_eq_true y), iteT (iteT ⟨_, rfl, bad (late e' z y) _ s2⟩)⟩⟩)
                      (fun y => ⟨_, rfl, rfl, true, congrArg V.bl (by rw [lastS e' z]; rfl), iteT ⟨_, rfl, _, rfl, _, _, rfl, lastS e' z, false, congrArg V.bl (decide_eq_false y), iteF (G fun e'' y2 => by rw [z] at y2; cases y2; exact y)⟩⟩))) (fun G0 => ?_)
                  have fine' := fine G0
                  refine ⟨_, rfl, _, rfl, _, _, rfl, rfl, vk, k, _, _, rfl, hdk, ?_⟩
                  cases hbk : btwB 0 (m - 1) k with
                  | false =>
                    refine ⟨_, rfl, iteT ⟨_, rfl, ?_⟩⟩
                    by_cases hp : parseR (.tuple [.int t, k, w']) = none
                    · exact badP hp _ s2
                    · obtain ⟨e, he⟩ := Option.ne_none_iff_exists'.mp hp
                      obtain ⟨ee, e0⟩ := parseR_eq he
                      cases ee
                      have h1 : (decide (e.t.natAbs ≤ 10 ^ 60) && decide (e.k < m)) = true := hitd
                      rw [Bool.and_eq_true, decide_eq_true_eq, decide_eq_true_eq] at h1
                      have h2 : (decide (0 ≤ e.k) && decide (e.k ≤ m - 1)) = false := hbk
                      rw [decide_eq_true e0, decide_eq_true (by omega)] at h2
                      cases h2
                  | true =>
                    refine ⟨_, rfl, iteF ?_⟩
                    cases k with
                    | int k =>
                      cases hdk
                      have hk1 : (decide (0 ≤ k) && decide (k ≤ m - 1)) = true := hbk
                      rw [Bool.and_eq_true, decide_eq_true_eq] at hk1
                      have k0 := hk1.1
                      by_cases ks : kindS w' = "str"
                      · obtain ⟨sw, rfl, rfl⟩ := hdw.strE ks
                        refine ⟨_, rfl, _, _, _, _, true, rfl, .ty "str", hdw.ty, kit_ty (kit_strT ks), _, rfl, iteF ?_⟩
                        refine ⟨_, rfl, (by show 2 ≤ sizeLine; decide), fun W nW => ?_⟩
                        have sW := same_upd (o := .lst [.str ("down" : String), .str ("up" : String)]) nW
                        have hW := upd_same (H := upd H1 T (.tup [.int (i : Nat), .ref b])) (a := W) (o := .lst [.str ("down" : String), .str ("up" : String)])
                        refine (fun (G : ∀ H3 : Hp, Same (upd H1 T (.tup [.int (i : Nat), .ref b])) H3 → H3 W = some (.lst [.str ("down" : String), .str ("up" : String)]) → _) => G _ sW hW) (fun H3 sW hW => ?_)
                        have hDn3 := sW _ _ hDn2
                        have s3 := s2.trans sW
                        refine ⟨_, rfl, _, rfl, D, _, rfl, .inl (SqL.of hDn3), rfl, flat_ints ns, .inr ⟨_, rfl, ?_⟩⟩
                        refine ⟨W, _, _, .str (wayS (!decide (k ∈ ns))), rfl, rfl, SqL.of hW, ?_, ?_⟩
                        · have := way_ix (decide (k ∈ ns))
                          rw [← inv_int] at this ⊢
                          exact this
                        have hsd : stepR es (.tuple [.int t, .int k, .str sw]) = if 0 ≤ k ∧ isWay sw then (if (lastOk es.getLast? ⟨t, k, decide (sw = ("down" : Str))⟩ && turnOk es ⟨t, k, decide (sw = ("down" : Str))⟩) = true then some ⟨t, k, decide (sw = ("down" : Str))⟩ else none) else none := by
                          unfold stepR
                          show Option.bind (if 0 ≤ k ∧ isWay sw then some _ else none) _ = _
                          split <;> rfl
                        have hin : decide (k ∈ ns) = heldB es k := by
                          rw [Bool.eq_iff_iff, decide_eq_true_eq]
                          exact dn.mem k
                        by_cases hw : sw = wayS (!decide (k ∈ ns))
                        · refine ⟨rfl, false, congrArg V.bl (by rw [hw]; simp), iteF ?_⟩
                          have eb : decide (sw = ("down" : Str)) = !decide (k ∈ ns) := by rw [hw]; exact way_back _
                          have hstep : stepR es (.tuple [.int t, .int k, .str sw]) = some ⟨t, k, !decide (k ∈ ns)⟩ := by
                            rw [hsd, if_pos ⟨k0, by rw [hw]; exact is_way _⟩, fine', eb]
                            rw [if_pos (by
                              show decide (heldB es k = !!decide (k ∈ ns)) = true
                              rw [hin, Bool.not_not]; simp)]
                          rw [rec_go hstep] at hrec
                          have hlast : ∀ e : Ev, befV (es ++ [e]).getLast? = .int e.t := fun e => by rw [List.getLast?_concat]; rfl
                          have nD0 := nD
                          refine ⟨_, rfl, _, rfl, rfl, ?_⟩
                          by_cases hm : k ∈ ns
                          · refine ⟨false, congrArg V.bl (by rw [hw, decide_eq_true hm]; decide +kernel), iteF ?_⟩
                            rw [decide_eq_true hm] at hrec
                            obtain ⟨j, hj⟩ := List.getElem?_of_mem hm
                            refine ⟨_, rfl, .inl ⟨rfl, _, SqL.of hDn3⟩, _, rfl, D, ns, k, j, rfl, rfl, hDn3, hj, first_ix dn.nd hj, ?_⟩
                            refine ⟨Same.off s3 nD off_upd, es ++ [⟨t, k, false⟩], ns.eraseIdx j, some (.int ((i : Nat) : Int)), some (.ref b), some (.int t), some (.int k), some (.str sw), ?_, upd_same, dn.up hj, ?_, by rw [List.length_append, hel]; rfl, hrec⟩
                            · rw [hlast]; rfl
                            · have := List.length_eraseIdx_le ns j; omega
                          · refine ⟨true, congrArg V.bl (by rw [hw, decide_eq_false hm]; decide +kernel), iteT ?_⟩
                            rw [decide_eq_false hm] at hrec
                            refine ⟨_, rfl, .inl ⟨rfl, _, SqL.of hDn3⟩, _, rfl, D, _, .int k, rfl, rfl, hDn3, (by rw [List.length_map]; exact small1000 (by omega)), ?_⟩
                            refine ⟨Same.off s3 nD off_upd, es ++ [⟨t, k, true⟩], ns ++ [k], some (.int ((i : Nat) : Int)), some (.ref b), some (.int t), some (.int k), some (.str sw), ?_, ?_, dn.down hm, ?_, by rw [List.length_append, hel]; rfl, hrec⟩
                            · rw [hlast]; rfl
                            · rw [upd_same, List.map_append]; rfl
                            · rw [List.length_append]; show _ + 1 ≤ _; omega
                        · refine ⟨rfl, true, congrArg V.bl (by simp [hw]), iteT ⟨_, rfl, bad ?_ _ s3⟩⟩
                          rw [hsd]
                          by_cases z : 0 ≤ k ∧ isWay sw
                          · rw [if_pos z]
                            refine if_neg fun y => hw ?_
                            rw [Bool.and_eq_true] at y
                            have y2 : heldB es k = !decide (sw = ("down" : Str)) := of_decide_eq_true y.2
                            rw [way_eq z.2, hin, y2, Bool.not_not]
                          · exact if_neg z
                      · refine ⟨_, rfl, _, _, _, _, false, rfl, .ty "str", hdw.ty, kit_ty (kit_strF ks), _, rfl, iteT ⟨_, rfl, badP (pr_none3 ks) _ s2⟩⟩
                    | _ => cases hbk
                | _ => cases ht
            · exact ⟨true, congrArg V.bl (show (!decide (V.int (ys.length : Nat) = V.int 3)) = true by rw [decide_eq_false fun z => h3 (by have := V.int.inj z; omega)]; rfl), iteT ⟨_, rfl, badP (pr_len h3) _ s2⟩⟩
          · exact ⟨_, rfl, _, _, _, _, false, rfl, .ty "tuple", hdq.ty, kit_ty (kit_tupF kt), _, rfl, iteT ⟨_, rfl, badP (pr_kind kt) _ s2⟩⟩
        · obtain ⟨s1, es, ns, y5, y6, y7, y8, y9, rfl, hDn, dn, nl, hel, hrec⟩ := p
          refine q _ _ s1 (.inl ⟨?_, rfl⟩)
          rw [hrec, List.drop_of_length_le (by omega)]; rfl
      · refine ⟨true, congrArg V.bl (decide_eq_true (by omega)), iteT ?_⟩
        refine q _ _ (Same.refl _) (.inr ⟨?_, .inl rfl⟩)
        show (decide (ds.length ≤ 400) && recEs ds []) = false
        rw [decide_eq_false h4]; rfl
    · refine ⟨_, rfl, _, _, _, _, false, rfl, .ty "list", hd.ty, kit_ty (kit_lstF hk), _, rfl, iteT ?_⟩
      refine q _ _ (Same.refl _) (.inr ⟨?_, .inl rfl⟩)
      cases d with
      | list ds => exact absurd rfl hk
      | _ => rfl
end
end K05

set_option Elab.async false
set_option linter.all false
set_option maxRecDepth 100000
set_option maxHeartbeats 8000000
namespace K05
open PySem PySem.Spec PyProof.Rows L2 Gd Rm
def add0 : PyData → PyData
  | .tuple ds => .tuple (.int 0 :: ds)
  | d => d
def twoB : PyData → Bool
  | .tuple ds => decide (ds.length = 2)
  | _ => false
theorem two_eq {d : PyData} (h : twoB d = true) : ∃ a b, d = .tuple [a, b] := by
  cases d with
  | tuple ds =>
    have h' : ds.length = 2 := of_decide_eq_true h
    match ds, h' with
    | [a, b], _ => exact ⟨a, b, rfl⟩
  | _ => cases h
theorem parse_add {a b : PyData} : parseR (.tuple [.int 0, a, b]) = parseO (.tuple [a, b]) := by
  cases a with
  | int k =>
    cases b with
    | str w => rfl
    | _ => rfl
  | _ => rfl
theorem po_t {d : PyData} {e : Ev} (h : parseO d = some e) : e.t = 0 := by
  unfold parseO at h
  split at h
  · split at h
    · cases h; rfl
    · cases h
  · cases h
theorem rec_ord : ∀ {ds : List PyData} {es : List Ev}, (∀ d ∈ ds, twoB d = true) → (∀ e ∈ es, e.t = 0) → recEs (ds.map add0) es = ordEs ds es
  | [], _, _, _ => rfl
  | d :: ds, es, h, ht => by
    obtain ⟨a, b, rfl⟩ := two_eq (h d List.mem_cons_self)
    have es0 : stepR es (.tuple [.int 0, a, b]) = stepO es (.tuple [a, b]) := by
      unfold stepR stepO
      rw [parse_add]
      cases hp : parseO (.tuple [a, b]) with
      | none => rfl
      | some e =>
        have e0 := po_t hp
        have hl : lastOk es.getLast? e = true := by
          cases hg : es.getLast? with
          | none => rfl
          | some x =>
            have := ht x (List.mem_of_getLast? hg)
            exact decide_eq_true (by rw [this, e0]; exact Int.le_refl 0)
        show (if (lastOk es.getLast? e && turnOk es e) = true then some e else none) = if turnOk es e = true then some e else none
        rw [hl, Bool.true_and]
    have hm : (PyData.tuple [a, b] :: ds).map add0 = .tuple [.int 0, a, b] :: ds.map add0 := rfl
    rw [hm]
    cases hs : stepO es (.tuple [a, b]) with
    | none => rw [rec_bad (es0.trans hs), ord_bad hs]
    | some e =>
      rw [rec_go (es0.trans hs), ord_go hs]
      refine rec_ord (fun d hd => h d (List.mem_cons_of_mem _ hd)) fun x hx => ?_
      rcases List.mem_append.mp hx with hx | hx
      · exact ht x hx
      · rw [List.mem_singleton.mp hx]
        unfold stepO at hs
        cases hp : parseO (.tuple [a, b]) with
        | none => rw [hp] at hs; cases hs
        | some y =>
          rw [hp] at hs
          have hs' : (if turnOk es y = true then some y else none) = some e := hs
          split at hs'
          · cases hs'; exact po_t hp
          · cases hs'
theorem ord_stop : ∀ {ds : List PyData} {es : List Ev} {d : PyData}, d ∈ ds → parseO d = none → ordEs ds es = false
  | x :: ds, es, d, hd, hp => by
    rcases List.mem_cons.mp hd with rfl | hd
    · refine ord_bad ?_
      unfold stepO
      rw [hp]; rfl
    · cases hs : stepO es x with
      | none => exact ord_bad hs
      | some e => rw [ord_go hs]; exact ord_stop hd hp
theorem two_po {d : PyData} (h : twoB d = false) : parseO d = none := by
  cases d with
  | tuple ds => exact po_len (of_decide_eq_false h)
  | _ => rfl
theorem it_add {m : Int} {d : PyData} (h : twoB d = true) (hi : itB m d = true) : itB m (add0 d) = true := by
  obtain ⟨a, b, rfl⟩ := two_eq h
  show itB m (.tuple [.int 0, a, b]) = true
  cases a with
  | int k =>
    cases b with
    | str w =>
      have h1 : decide (k < m) = true := hi
      show (decide ((0 : Int).natAbs ≤ 10 ^ 60) && decide (k < m)) = true
      rw [h1]; decide
    | _ => rfl
  | _ => rfl
/-- what the law's loop knows after i items -/
def OfI (K : PySem.W.Frag) (H : Hp) (c F : Addr) (m : Int) (ds : List PyData) (i : Nat) (σ : L2.St) (H' : Hp) : Prop :=
  Same H H' ∧ ∃ y3 y4 fs, σ = [some (.ref c), some (.int m), some (.ref F), y3, y4] ∧ H' F = some (.lst fs) ∧ DqAll K (wo [F] H') fs ((ds.take i).map add0) ∧ (∀ d ∈ ds.take i, twoB d = true)
def OfE (K : PySem.W.Frag) (H : Hp) (c F : Addr) (m : Int) (ds : List PyData) (σ : L2.St) (H' : Hp) : Prop :=
  ∃ n, n ≤ ds.length ∧ OfI K H c F m ds n σ H' ∧ (n = ds.length ∨ ∃ d ∈ ds, twoB d = false)
theorem fineS : SeqAt.shaped (.str ("fine" : String)) = true := by decide +kernel
section
variable {P : Program} {w : World} {K : PySem.W.Frag} {mg : Str → Option Value} {base : Heap}
def spOF (K : PySem.W.Frag) : Sp := fun vs H Q _ => ∃ (v : V) (d : PyData) (m : Int), vs = [v, .int m] ∧ Dq K H v d ∧ itOk m d ∧ ∀ H' r, Same H H' → Told r (ordOk d) → Q r H'
theorem ok__law_order_fault (bt : Bt mg) (a : At K mg "_law_order_fault" s__law_order_fault ["_law_value", "_law_keys"]) (c__law_record_fault : Cl P w K mg base 2 "_law_record_fault" (spRF K)) : Cl P w K mg base 3 "_law_order_fault" (spOF K) := by
  refine clG a sc__law_order_fault (fun vs H Q E h => ?_) (fun f cdv A outer s H vs Q hg hr h => ?_)
  · obtain ⟨v, d, m, rfl, _⟩ := h
    rfl
  · obtain ⟨v, d, m, rfl, hd, hit, q⟩ := h
    refine ⟨_, (pss_cons (ps_if (PW.pt (pw_or (pt_not (pt_val (pe_callB call_isi (by rfl) bt.m_isinstance (by decide +kernel) (pa_cons (pv 0) (pa_cons (pe_bltn (v := .ty "list") (by rfl) bt.m_list (by decide +kernel) rfl) pa_nil))))) (pw_or1 (pt_cmpR op_gt (pe_callB call_len_seq (by rfl) bt.m_len (by decide +kernel) (pa_cons (pv 0) pa_nil)) pe_int (nomark _))))) (pss_one (ps_ret pe_non)) pss_nil)
      (pss_cons (ps_set (i := 2) sc__law_order_fault.nd rfl (Or.inl rfl) (pe_lst pa_nil))
      (pss_cons (ps_for PassesOwn.never rfl (pi_list (pv 0)) (pg_name (i := 3) sc__law_order_fault.nd rfl (Or.inl rfl)) (pss_cons (ps_if (PW.pt (pw_or (pt_not (pt_val (pe_callB call_isi (by rfl) bt.m_isinstance (by decide +kernel) (pa_cons (pv 3) (pa_cons (pe_bltn (v := .ty "tuple") (by rfl) bt.m_tuple (by decide +kernel) rfl) pa_nil))))) (pw_or1 (pt_cmpR op_ne (pe_callB call_len_seq (by rfl) bt.m_len (by decide +kernel) (pa_cons (pv 3) pa_nil)) pe_int (nomark _))))) (pss_one ps_break) pss_nil)
      (pss_one (ps_expr (pe_bm PySem.F.plainAttrs_list PySem.F.slot_list_append PySem.F.type_list_append mt_append (pv 2) (pa_cons (pe_op op_catT (pe_tup (pa_cons pe_int pa_nil)) (pv 3)) pa_nil))))))
      (pss_cons (ps_set (i := 4) sc__law_order_fault.nd rfl (Or.inl rfl) (pe_cl c__law_record_fault hg hr (by decide) (by rfl) (pa_cons (pv 2) (pa_cons (pv 1) pa_nil))))
      (pss_one (ps_ret (pe_ifExp (PW.pt (pw_and (pt_cmpR (op_eqD hr.units) (pv 4) pe_str (nomark _)) (pw_and1 (pt_cmpR op_lt (pe_callB call_len_seq (by rfl) bt.m_len (by decide +kernel) (pa_cons (pv 2) pa_nil)) (pe_callB call_len_seq (by rfl) bt.m_len (by decide +kernel) (pa_cons (pv 0) pa_nil)) (nomark _))))) (pe_callB call_len_seq (by rfl) bt.m_len (by decide +kernel) (pa_cons (pv 2) pa_nil)) (pv 4)))))))), ?_⟩
    by_cases hk : kindS d = "list"
    · obtain ⟨c, xs, ds, rfl, rfl, hs, hD⟩ := hd.lstE hk
      have hl : xs.length = ds.length := hD.length
      have hit' : ∀ d ∈ ds, itB m d = true := hit
      refine ⟨_, rfl, _, _, _, _, true, rfl, .ty "list", hd.ty, kit_ty (kit_lstT hk), _, rfl, iteF ?_⟩
      refine ⟨_, rfl, c, _, rfl, .inl hs, _, _, rfl, rfl, ?_⟩
      by_cases h4 : ds.length ≤ 400
      · refine ⟨false, congrArg V.bl (decide_eq_false (by omega)), iteF ?_⟩
        have er : ordOk (.list ds) = ordEs ds [] := by
          show (decide (ds.length ≤ 400) && ordEs ds []) = _
          rw [decide_eq_true h4]; rfl
        rw [er] at q
        refine ⟨Nat.zero_le _, fun F nF => ?_⟩
        have sF := same_upd (o := .lst []) nF
        have hF0 := upd_same (H := H) (a := F) (o := .lst [])
        refine (fun (D : ∀ (σ : L2.St) (H1 : Hp), OfE K H c F m ds σ H1 → _) => ⟨_, rfl, c, rfl, ⟨_, SqL.same_ hs sF⟩, for_it (walk_list (xs := xs)) (OfI K H c F m ds)
            ⟨sF, _, _, [], rfl, hF0, .nil, fun d h => by simp at h⟩ (fun _ _ H' _ p => SqL.same_ hs p.1) (fun i x σ H1 H2 hi p y => ?_) (fun σ H1 p => D σ H1 ⟨_, Nat.le_of_eq hl, p, .inl hl⟩)⟩) (fun σ H1 p => ?_)
        · obtain ⟨n, hn, ⟨s1, y3, y4, fs, rfl, hF, hDf, htwo⟩, hend⟩ := p
          have hfl : fs.length = n := by rw [hDf.length, List.length_map, List.length_take]; omega
          have hit2 : itOk m (.list ((ds.take n).map add0)) := fun d hd => by
            obtain ⟨x, hx, rfl⟩ := List.mem_map.mp hd
            exact it_add (htwo x hx) (hit' x (List.mem_of_mem_take hx))
          have erk : recOk (.list ((ds.take n).map add0)) = ordEs (ds.take n) [] := by
            show (decide (((ds.take n).map add0).length ≤ 400) && recEs ((ds.take n).map add0) []) = _
            rw [decide_eq_true (by rw [List.length_map, List.length_take]; omega), Bool.true_and]
            exact rec_ord htwo (fun e h => by simp at h)
          have short : n < ds.length → ordEs ds [] = false := fun z => by
            rcases hend with h | ⟨d, hd, hd2⟩
            · omega
            · exact ord_stop hd (two_po hd2)
          have whole : n = ds.length → ordEs (ds.take n) [] = ordEs ds [] := fun z => by rw [z, List.take_length]
          refine ⟨_, rfl, _, rfl, .ref F, _, m, rfl, .lst (SqL.of hF) (hDf.same wo_all), hit2, fun H2 r s2 told => ?_⟩
          rw [erk] at told
          have s12 := s1.trans s2
          have hF2 := s2 _ _ hF
          rcases told with ⟨e, rfl⟩ | ⟨e, hr2⟩
          · refine ⟨_, rfl, .str ("fine" : String), .str ("fine" : String), .str _, .str _, fineS, fineS, true, congrArg V.bl (by decide +kernel), iteT ?_⟩
            refine ⟨_, rfl, F, _, rfl, .inl (SqL.of hF2), _, rfl, c, _, rfl, .inl (SqL.same_ hs s12), _, _, rfl, rfl, ?_⟩
            by_cases z : n < ds.length
            · refine ⟨true, congrArg V.bl (decide_eq_true (by rw [hfl, hl]; omega)), iteT ⟨_, rfl, F, _, rfl, .inl (SqL.of hF2), ?_⟩⟩
              exact q _ _ s12 (.inr ⟨short z, .inr ⟨_, rfl⟩⟩)
            · refine ⟨false, congrArg V.bl (decide_eq_false (by rw [hfl, hl]; omega)), iteF ⟨_, rfl, ?_⟩⟩
              exact q _ _ s12 (.inl ⟨by rw [← whole (by omega)]; exact e, rfl⟩)
          · have bad : ordEs ds [] = false := by
              by_cases z : n < ds.length
              · exact short z
              · rw [← whole (by omega)]; exact e
            rcases hr2 with rfl | ⟨j, rfl⟩
            · exact ⟨_, rfl, .none, .str ("fine" : String), .non, .str _, rfl, fineS, false, congrArg V.bl (by decide +kernel), iteF (iteF ⟨_, rfl, q _ _ s12 (.inr ⟨bad, .inl rfl⟩)⟩)⟩
            · exact ⟨_, rfl, .int j, .str ("fine" : String), .int _, .str _, rfl, fineS, false, congrArg V.bl rfl, iteF (iteF ⟨_, rfl, q _ _ s12 (.inr ⟨bad, .inr ⟨j, rfl⟩⟩)⟩)⟩
        · obtain ⟨s1, y3, y4, fs, rfl, hF, hDf, htwo⟩ := p
          obtain ⟨rfl, e2⟩ := y
          obtain ⟨di, hdi, hdq0⟩ := hD.at_ e2
          have hdq := hdq0.same s1
          have hmem := List.mem_of_getElem? hdi
          have hi' : i < ds.length := by omega
          have hfl : fs.length = i := by rw [hDf.length, List.length_map, List.length_take]; omega
          have stop : twoB di = false → ∀ y3 y4, OfE K H c F m ds [some (.ref c), some (.int m), some (.ref F), y3, y4] _ := fun z y3 y4 => ⟨i, by omega, ⟨s1, y3, y4, fs, rfl, hF, hDf, htwo⟩, .inr ⟨di, hmem, z⟩⟩
          by_cases kt : kindS di = "tuple"
          · obtain ⟨b, ys, zs, rfl, rfl, hsb0, hDb0⟩ := hdq0.tupE kt
            have hsb := SqT.same_ hsb0 s1
            have hl2 : ys.length = zs.length := hDb0.length
            refine ⟨_, rfl, _, _, _, _, true, rfl, .ty "tuple", hdq.ty, kit_ty (kit_tupT kt), _, rfl, iteF ?_⟩
            refine ⟨_, rfl, b, _, rfl, .inr hsb, rfl, ?_⟩
            by_cases h2 : zs.length = 2
            · refine ⟨false, congrArg V.bl (show (!decide (V.int (ys.length : Nat) = V.int 2)) = false by rw [decide_eq_true (by rw [hl2, h2]; rfl)]; rfl), iteF ?_⟩
              refine ⟨_, rfl, .inl ⟨rfl, _, SqL.of hF⟩, (by show 1 ≤ sizeLine; decide), fun p np => ?_⟩
              have sp := same_upd (o := .tup [.int 0]) np
              have hp := upd_same (H := H2) (a := p) (o := .tup [.int 0])
              refine (fun (G : ∀ H3 : Hp, Same H2 H3 → H3 p = some (.tup [.int 0]) → _) => G _ sp hp) (fun H3 sp hp => ?_)
              refine ⟨_, rfl, p, b, _, _, rfl, rfl, SqT.of hp, SqT.same_ hsb sp, (fun z => by cases z), (by rw [sizeLine_eq]; show 1 + ys.length ≤ _; omega), (fun z => by rw [z] at hl2; rw [h2] at hl2; cases hl2), fun _ T nT => ?_⟩
              have sT := same_upd (o := .tup ([.int 0] ++ ys)) nT
              have hT := upd_same (H := H3) (a := T) (o := .tup ([.int 0] ++ ys))
              refine (fun (G : ∀ H4 : Hp, Same H3 H4 → H4 T = some (.tup ([.int 0] ++ ys)) → _) => G _ sT hT) (fun H4 sT hT => ?_)
              have s24 := sp.trans sT
              have hF4 := s24 _ _ hF
              have nF0 := nF
              have so : Same H (wo [F] H4) := same_wo (S := [F]) (s1.trans s24) fun M hM => by rw [List.mem_singleton.mp hM]; exact nF
              refine ⟨F, _, .ref T, rfl, rfl, hF4, (by rw [hfl]; exact small1000 (by omega)), Same.off (s1.trans s24) nF off_upd, _, _, fs ++ [.ref T], rfl, upd_same, ?_, fun d hd => ?_⟩
              · rw [List.take_add_one, hdi, List.map_append]
                refine DqAll.append (hDf.same ((wo_same s24).trans (wo_upd (by simp)))) (.cons ?_ .nil)
                exact (Dq.tup (xs := [.int 0] ++ ys) (ds := .int 0 :: zs) (SqT.of (wo_at (S := [F]) hT (wo_new (Has.one (sp _ _ hF)) nT))) (.cons (.int 0) (hDb0.same so))).same (wo_upd (by simp))
              · rw [List.take_add_one, hdi] at hd
                rcases List.mem_append.mp hd with hd | hd
                · exact htwo d hd
                · rw [show d = _ from List.mem_singleton.mp hd]; exact decide_eq_true h2
            · exact ⟨true, congrArg V.bl (show (!decide (V.int (ys.length : Nat) = V.int 2)) = true by rw [decide_eq_false fun z => h2 (by have := V.int.inj z; omega)]; rfl), iteT (D _ _ (stop (decide_eq_false h2) _ _))⟩
          · refine ⟨_, rfl, _, _, _, _, false, rfl, .ty "tuple", hdq.ty, kit_ty (kit_tupF kt), _, rfl, iteT (D _ _ (stop ?_ _ _))⟩
            cases di with
            | tuple ds => exact absurd rfl kt
            | _ => rfl
      · refine ⟨true, congrArg V.bl (decide_eq_true (by omega)), iteT ?_⟩
        refine q _ _ (Same.refl _) (.inr ⟨?_, .inl rfl⟩)
        show (decide (ds.length ≤ 400) && ordEs ds []) = false
        rw [decide_eq_false h4]; rfl
    · refine ⟨_, rfl, _, _, _, _, false, rfl, .ty "list", hd.ty, kit_ty (kit_lstF hk), _, rfl, iteT ?_⟩
      refine q _ _ (Same.refl _) (.inr ⟨?_, .inl rfl⟩)
      cases d with
      | list ds => exact absurd rfl hk
      | _ => rfl
end
end K05

set_option Elab.async false
set_option linter.all false
set_option maxRecDepth 100000
set_option maxHeartbeats 8000000
namespace K05
open PySem PySem.Spec PyProof.Rows L2 Gd Rm
abbrev Mx : Int := 10 ^ 40
def tailD : PyData → PyData
  | .tuple ds => .tuple (ds.drop 1)
  | d => d
/-- what may stand in a record, or a value near to it -/
structure IG (d : PyData) : Prop where
  f1 : Fit 15000 3 d
  f2 : Fit 15000 3 (tailD d)
  i1 : itB Mx d = true
  i2 : itB Mx (tailD d) = true
/-- what may be judged -/
structure VG (d : PyData) : Prop where
  f : Fit 10000000 6 d
  it : itOk Mx d
theorem told_eq {K : PySem.W.Frag} {H : Hp} {r : V} {b : Bool} (h : Told r b) : ∃ dr, Dp K H r dr ∧ SeqAt.shaped dr = true ∧ PyData.eqv dr (.str ("fine" : String)) = b := by
  rcases h with ⟨e, rfl⟩ | ⟨e, rfl | ⟨j, rfl⟩⟩
  · exact ⟨.str ("fine" : String), .str _, fineS, by rw [e]; decide +kernel⟩
  · exact ⟨.none, .non, rfl, by rw [e]; decide +kernel⟩
  · exact ⟨.int j, .int _, rfl, by rw [e]; rfl⟩
theorem fit_bools (a b : Bool) : Fit 1000 1 (.list [.bool a, .bool b]) := (fit_list (L := 210) (n := 0) fun d hd => by
  simp only [List.mem_cons, List.mem_nil_iff, or_false] at hd
  rcases hd with rfl | rfl <;> exact fit_bool _).mono (by show 2 * 212 + 3 ≤ 1000; decide) (Nat.le_refl _)
theorem neV (x : V) : V.bl (!decide (x = x)) = V.bl false := by simp
theorem vg_list {ds : List PyData} (h : ∀ d ∈ ds, IG d) (hl : ds.length ≤ 500) : VG (.list ds) := by
  refine ⟨(fit_list (L := 15000) (n := 3) fun d hd => (h d hd).f1).mono (by omega) (by decide), fun d hd => (h d hd).i1⟩
theorem vg_tails {ds : List PyData} (h : ∀ d ∈ ds, IG d) (hl : ds.length ≤ 500) : VG (.list (ds.map tailD)) := by
  refine ⟨(fit_list (L := 15000) (n := 3) fun d hd => ?_).mono (by rw [List.length_map]; omega) (by decide), fun d hd => ?_⟩
  · obtain ⟨x, hx, rfl⟩ := List.mem_map.mp hd
    exact (h x hx).f2
  · obtain ⟨x, hx, rfl⟩ := List.mem_map.mp hd
    exact (h x hx).i2
section
variable {P : Program} {w : World} {K : PySem.W.Frag} {mg : Str → Option Value} {base : Heap}
def spTold (K : PySem.W.Frag) : Sp := fun vs H Q _ => ∃ (v : V) (d : PyData), vs = [v] ∧ Dq K H v d ∧ VG d ∧ ∀ H', Same H H' → Q (.bl true) H'
theorem ok__law_told_right (bt : Bt mg) (hsm : SysAt base) (a : At K mg "_law_told_right" s__law_told_right ["_law_value"]) (c__law_record_fault : Cl P w K mg base 2 "_law_record_fault" (spRF K)) (c__law_order_fault : Cl P w K mg base 3 "_law_order_fault" (spOF K))
    (c_is_record : Cl P w K mg base 5 "is_record" (spIsR K)) (c_is_order : Cl P w K mg base 4 "is_order" (spIsO K)) : Cl P w K mg base 6 "_law_told_right" (spTold K) := by
  refine clG a sc__law_told_right (fun vs H Q E h => ?_) (fun f cdv A outer s H vs Q hg hr h => ?_)
  · obtain ⟨v, d, rfl, _⟩ := h
    rfl
  · obtain ⟨v, d, rfl, hd, hV, q⟩ := h
    refine ⟨_, (pss_cons (ps_par (i := 1) (j := 2) rfl sc__law_told_right.nd rfl rfl (by decide) rfl rfl (pa_cons (pe_callB (call_repQ hsm hg hr) (by rfl) bt.m_repr (by decide +kernel) (pa_cons (pv 0) pa_nil)) (pa_cons (pe_lst (pa_cons (pe_cmpR (op_eqD hr.units) (pe_cl c__law_record_fault hg hr (by decide) (by rfl) (pa_cons (pv 0) (pa_cons (pe_op op_powW pe_int pe_int) pa_nil))) pe_str (nomark _)) pa_nil)) pa_nil)) (by rfl))
      (pss_cons (ps_expr (pe_bm PySem.F.plainAttrs_list PySem.F.slot_list_append PySem.F.type_list_append mt_append (pv 2) (pa_cons (pe_cmpR (op_eqD hr.units) (pe_cl c__law_order_fault hg hr (by decide) (by rfl) (pa_cons (pv 0) (pa_cons (pe_op op_powW pe_int pe_int) pa_nil))) pe_str (nomark _)) pa_nil)))
      (pss_cons (ps_for PassesOwn.never rfl (pi_range1 (by rfl) bt.m_range (pa_cons pe_int pa_nil)) (pg_name (i := 3) sc__law_told_right.nd rfl (Or.inl rfl)) (pss_one (ps_if (PW.pt (pw_or (pt_cmpR op_ne (pe_callB (call_repQ hsm hg hr) (by rfl) bt.m_repr (by decide +kernel) (pa_cons (pe_lst (pa_cons (pe_cl c_is_record hg hr (by decide) (by rfl) (pa_cons (pv 0) pa_nil)) (pa_cons (pe_cl c_is_order hg hr (by decide) (by rfl) (pa_cons (pv 0) pa_nil)) pa_nil))) pa_nil)) (pe_callB (call_repQ hsm hg hr) (by rfl) bt.m_repr (by decide +kernel) (pa_cons (pv 2) pa_nil)) (nomark _)) (pw_or1 (pt_cmpR op_ne (pe_callB (call_repQ hsm hg hr) (by rfl) bt.m_repr (by decide +kernel) (pa_cons (pv 0) pa_nil)) (pv 1) (nomark _))))) (pss_one (ps_ret pe_bl)) pss_nil)))
      (pss_one (ps_ret pe_bl))))), ?_⟩
    have dp := hV.f.dp
    have ln : d.shown.length ≤ sizeLine := by have := hV.f.ln; rw [sizeLine_eq]; omega
    refine ⟨_, rfl, v, d, rfl, hd, hV.f.sh, by omega, ln, ?_⟩
    refine ⟨_, rfl, _, _, rfl, rfl, powW (n := 40) (k := 40) (by decide) (by decide), v, d, Mx, rfl, hd, hV.it, fun H1 r1 s1 t1 => ?_⟩
    obtain ⟨dr1, p1, sh1, e1⟩ := told_eq (K := K) (H := H1) t1
    refine ⟨dr1, .str ("fine" : String), p1, .str _, sh1, fineS, ?_⟩
    rw [e1]
    refine ⟨(by show 1 ≤ sizeLine; decide), fun D nD => ⟨_, _, rfl, ?_⟩⟩
    have sD := same_upd (o := .lst [.bl (recOk d)]) nD
    have hD := upd_same (H := H1) (a := D) (o := .lst [.bl (recOk d)])
    refine (fun (G : ∀ H2 : Hp, Same H1 H2 → H2 D = some (.lst [.bl (recOk d)]) → _) => G _ sD hD) (fun H2 sD hD => ?_)
    have s2 := s1.trans sD
    have nD0 := sfree s1 nD
    refine ⟨_, rfl, .inl ⟨rfl, _, SqL.of hD⟩, _, rfl, _, _, rfl, rfl, powW (n := 40) (k := 40) (by decide) (by decide), v, d, Mx, rfl, hd.same s2, hV.it, fun H3 r3 s3 t3 => ?_⟩
    obtain ⟨dr3, p3, sh3, e3⟩ := told_eq (K := K) (H := H3) t3
    refine ⟨dr3, .str ("fine" : String), p3, .str _, sh3, fineS, ?_⟩
    rw [e3]
    refine ⟨D, _, _, rfl, rfl, s3 _ _ hD, (by show 1 < sizeLine; decide), ?_⟩
    have s4 : Same H (upd H3 D (.lst [.bl (recOk d), .bl (ordOk d)])) := Same.off (s2.trans s3) nD0 off_upd
    have hD4 := upd_same (H := H3) (a := D) (o := .lst [.bl (recOk d), .bl (ordOk d)])
    refine (fun (G : ∀ H4 : Hp, Same H H4 → H4 D = some (.lst [.bl (recOk d), .bl (ordOk d)]) → _) => G _ s4 hD4) (fun H4 s4 hD4 => ?_)
    refine ⟨2, rfl, by decide, by decide, for_it walk_range (fun i σ H' => Same H4 H' ∧ ∃ y3, σ = [some v, some (.str d.shown), some (.ref D), y3]) ⟨Same.refl _, _, rfl⟩ (fun _ _ _ _ _ => True.intro) (fun i x σ Hx H5 hi p y => ?_) (fun σ H5 p => ?_)⟩
    · obtain ⟨s5, y3, rfl⟩ := p
      obtain ⟨rfl, rfl⟩ := y
      have s45 := s4.trans s5
      refine ⟨_, rfl, v, d, rfl, hd.same s45, fun H6 s6 => ?_⟩
      refine ⟨_, rfl, v, d, rfl, hd.same (s45.trans s6), fun H7 s7 => ?_⟩
      refine ⟨(by show 2 ≤ sizeLine; decide), fun p np => ?_⟩
      have sp := same_upd (o := .lst [.bl (recOk d), .bl (ordOk d)]) np
      have hp := upd_same (H := H7) (a := p) (o := .lst [.bl (recOk d), .bl (ordOk d)])
      refine (fun (G : ∀ H8 : Hp, Same H7 H8 → H8 p = some (.lst [.bl (recOk d), .bl (ordOk d)]) → _) => G _ sp hp) (fun H8 sp hp => ?_)
      have s58 := (s6.trans s7).trans sp
      have hD8 := s58 _ _ (s5 _ _ hD4)
      have fb := fit_bools (recOk d) (ordOk d)
      have fln : (PyData.list [.bool (recOk d), .bool (ordOk d)]).shown.length ≤ sizeLine := by have := fb.ln; rw [sizeLine_eq]; omega
      have fdp : (PyData.list [.bool (recOk d), .bool (ordOk d)]).depth ≤ 50 := by have := fb.dp; omega
      refine ⟨.ref p, .list [.bool (recOk d), .bool (ordOk d)], rfl, .lst (SqL.of hp) (.cons (.bl _) (.cons (.bl _) .nil)), fb.sh, fdp, fln, ?_⟩
      refine ⟨_, rfl, .ref D, .list [.bool (recOk d), .bool (ordOk d)], rfl, .lst (SqL.of hD8) (.cons (.bl _) (.cons (.bl _) .nil)), fb.sh, fdp, fln, rfl, false, neV _, iteF ?_⟩
      exact ⟨_, rfl, v, d, rfl, hd.same (s45.trans s58), hV.f.sh, by omega, ln, _, rfl, rfl, false, neV _, iteF ⟨s5.trans s58, _, rfl⟩⟩
    · obtain ⟨s5, y3, rfl⟩ := p
      exact q _ (s4.trans s5)
def spSteps (K : PySem.W.Frag) : Sp := fun vs H Q _ => ∃ (c : Addr) (xs : List V) (ds : List PyData), vs = [.ref c] ∧ SqL K H c xs ∧ DqAll K H xs ds ∧ ds.length ≤ 500 ∧
  ∀ H' p ys, Same H H' → H p = none → H' p = some (.lst ys) → DqAll K H' ys (ds.map tailD) → Q (.ref p) H'
theorem cutD {xs : List V} {k : Nat} (h1 : k ≤ xs.length) : cutV xs (some (k : Int)) none = xs.drop k := by
  unfold cutV
  rw [HT.sIx_none, HT.sIx_nat, Nat.min_eq_left h1]
  exact List.take_of_length_le (by rw [List.length_drop]; omega)
theorem ok__law_steps (bt : Bt mg) (a : At K mg "_law_steps" s__law_steps ["_law_value"]) : Cl P w K mg base 1 "_law_steps" (spSteps K) := by
  refine clG a sc__law_steps (fun vs H Q E h => ?_) (fun f cdv A outer s H vs Q hg hr h => ?_)
  · obtain ⟨c, xs, ds, rfl, _⟩ := h
    rfl
  · obtain ⟨c, xs, ds, rfl, hs, hD, hl5, q⟩ := h
    refine ⟨_, (pss_one (ps_ret (pe_lc (own := [("_law_item", 1)]) (g := (gName 1)) (by rfl) sc__law_steps.nd (pi_list (pv 0)) (blkOk_by (N := n__law_steps) (sc := defScope s__law_steps) (by decide +kernel)) (fun _ _ _ _ _ => (pg_name (i := 1) sc__law_steps.nd rfl (Or.inl rfl))) (fun _ _ _ _ _ => pts_nil) (fun _ _ _ _ _ => (pe_ifExp (pt_val (pe_callB (r := rIsi K) call_isi (by rfl) bt.m_isinstance (by decide +kernel) (pa_cons (pv 1) (pa_cons (pe_bltn (v := .ty "tuple") (by rfl) bt.m_tuple (by decide +kernel) rfl) pa_nil)))) (pe_slice (r := rSlA K) sl_tupA (pv 1) (po_some pe_int) po_none) (pv 1)))))), ?_⟩
    have hl : xs.length = ds.length := hD.length
    refine ⟨_, rfl, c, rfl, ⟨_, hs⟩, fun M nM => lc_it (walk_list (xs := xs)) (fun i H' => Same H H' ∧ ∃ ys, H' M = some (.lst ys) ∧ DqAll K (wo [M] H') ys ((ds.take i).map tailD)) ⟨same_upd nM, [], upd_same, .nil⟩ (fun i H' _ p => SqL.same_ hs p.1) (fun i x H1 H2 hi p y => ?_) (fun H1 p => ?_)⟩
    · obtain ⟨s1, ys, hM, hDy⟩ := p
      obtain ⟨rfl, e2⟩ := y
      obtain ⟨di, hdi, hdq0⟩ := hD.at_ e2
      have hyl : ys.length = i := by rw [hDy.length, List.length_map, List.length_take]; have := (List.getElem?_eq_some_iff.mp hdi).1; omega
      have so : Same H (wo [M] _) := same_wo (S := [M]) s1 fun X hX => by rw [List.mem_singleton.mp hX]; exact nM
      have hdq := hdq0.same s1
      have etake : (ds.take (i + 1)).map tailD = (ds.take i).map tailD ++ [tailD di] := by rw [List.take_add_one, hdi, List.map_append]; rfl
      refine ⟨rfl, ?_⟩
      by_cases kt : kindS di = "tuple"
      · obtain ⟨b, zs, es, rfl, rfl, hsb0, hDb0⟩ := hdq0.tupE kt
        have hsb := SqT.same_ hsb0 s1
        refine ⟨_, rfl, _, _, _, _, true, rfl, .ty "tuple", hdq.ty, kit_ty (kit_tupT kt), _, rfl, iteT ?_⟩
        refine ⟨_, rfl, 1, rfl, b, _, rfl, hsb, fun z => ?_, fun z p np => ?_⟩
        · have hz : es.drop 1 = es := by
            have z1 := z.1
            rw [show (1 : Int) = ((1 : Nat) : Int) from rfl, HT.sIx_nat] at z1
            have hel := hDb0.length
            have : es = [] := List.length_eq_zero_iff.mp (by omega)
            rw [this]; rfl
          refine ⟨_, hM, small1000 (by omega), Same.off s1 nM off_upd, ys ++ [.ref b], upd_same, ?_⟩
          rw [etake]
          refine DqAll.append (hDy.same (wo_upd (by simp))) (.cons ?_ .nil)
          show Dq K _ _ (.tuple (es.drop 1))
          rw [hz]
          exact (Dq.tup hsb0 hDb0).same (so.trans (wo_upd (by simp)))
        · have h1 : 1 ≤ zs.length := by
            rcases Nat.lt_or_ge zs.length 1 with h | h
            · refine absurd ⟨?_, ?_⟩ z
              · rw [show (1 : Int) = ((1 : Nat) : Int) from rfl, HT.sIx_nat]; omega
              · rw [HT.sIx_none]
            · exact h
          have sp := same_upd (o := .tup (cutV zs (some 1) none)) np
          have hp := upd_same (a := p) (o := .tup (cutV zs (some 1) none)) (H := H2)
          refine (fun (G : ∀ H3 : Hp, Same H2 H3 → H3 p = some (.tup (cutV zs (some 1) none)) → _) => G _ sp hp) (fun H3 sp hp => ?_)
          rw [show cutV zs (some 1) none = zs.drop 1 from cutD (k := 1) h1] at hp
          refine ⟨_, sp _ _ hM, small1000 (by omega), Same.off (s1.trans sp) nM off_upd, ys ++ [.ref p], upd_same, ?_⟩
          rw [etake]
          exact DqAll.append (hDy.same ((wo_same sp).trans (wo_upd (by simp)))) (.cons ((Dq.tup (SqT.of (wo_at (S := [M]) hp (wo_new (Has.one hM) np))) ((hDb0.drop 1).same (so.trans (wo_same sp)))).same (wo_upd (by simp))) .nil)
      · refine ⟨_, rfl, _, _, _, _, false, rfl, .ty "tuple", hdq.ty, kit_ty (kit_tupF kt), _, rfl, iteF ?_⟩
        have et : tailD di = di := by
          cases di with
          | tuple ds => exact absurd rfl kt
          | _ => rfl
        refine ⟨_, rfl, _, hM, small1000 (by omega), Same.off s1 nM off_upd, ys ++ [x], upd_same, ?_⟩
        rw [etake, et]
        exact DqAll.append (hDy.same (wo_upd (by simp))) (.cons (hdq0.same (so.trans (wo_upd (by simp)))) .nil)
    · obtain ⟨s1, ys, hM, hDy⟩ := p
      rw [List.take_of_length_le (by omega)] at hDy
      exact q _ M ys s1 nM hM (hDy.same wo_all)
end
end K05

set_option Elab.async false
set_option linter.all false
set_option maxRecDepth 100000
set_option maxHeartbeats 8000000
namespace K05
open PySem PySem.Spec PyProof.Rows L2 Gd Rm
/-! ### what the law makes up -/
/-- a part of a thing near to an event -/
def PG (K : PySem.W.Frag) (H : Hp) (m : Int) (v : V) : Prop := ∃ d, Dq K H v d ∧ Fit 3000 2 d ∧ ∀ i, d = .int i → i.natAbs ≤ 10 ^ 60 ∧ i < m
def GI (K : PySem.W.Frag) (H : Hp) (v : V) : Prop := ∃ d, Dq K H v d ∧ IG d
def GIs (K : PySem.W.Frag) (H : Hp) (vs : List V) : Prop := ∀ v ∈ vs, GI K H v
def PGs (K : PySem.W.Frag) (H : Hp) (m : Int) (vs : List V) : Prop := ∀ v ∈ vs, PG K H m v
section
variable {K : PySem.W.Frag} {H H' : Hp} {m m' : Int} {v : V} {vs ws : List V}
theorem PG.same (g : PG K H m v) (s : Same H H') : PG K H' m v := by
  obtain ⟨d, a, b⟩ := g
  exact ⟨d, a.same s, b⟩
theorem GI.same (g : GI K H v) (s : Same H H') : GI K H' v := by
  obtain ⟨d, a, b⟩ := g
  exact ⟨d, a.same s, b⟩
theorem PGs.same (g : PGs K H m vs) (s : Same H H') : PGs K H' m vs := fun v h => (g v h).same s
theorem GIs.same (g : GIs K H vs) (s : Same H H') : GIs K H' vs := fun v h => (g v h).same s
theorem PGs.nil : PGs K H m [] := fun v h => by simp at h
theorem GIs.nil : GIs K H [] := fun v h => by simp at h
theorem PGs.cons (a : PG K H m v) (b : PGs K H m vs) : PGs K H m (v :: vs) := fun x h => by
  rcases List.mem_cons.mp h with rfl | h
  · exact a
  · exact b x h
theorem GIs.cons (a : GI K H v) (b : GIs K H vs) : GIs K H (v :: vs) := fun x h => by
  rcases List.mem_cons.mp h with rfl | h
  · exact a
  · exact b x h
theorem GIs.app (a : GIs K H vs) (b : GIs K H ws) : GIs K H (vs ++ ws) := fun x h => (List.mem_append.mp h).elim (a x) (b x)
theorem PG.mono (g : PG K H m v) (h : m ≤ m') : PG K H m' v := by
  obtain ⟨d, a, b, c⟩ := g
  exact ⟨d, a, b, fun i e => ⟨(c i e).1, by have := (c i e).2; omega⟩⟩
theorem pg_int {i : Int} (h : i.natAbs ≤ 10 ^ 60) (h2 : i < m) : PG K H m (.int i) := ⟨.int i, .int i, (fit_int (by omega)).mono (by decide) (by decide), fun j e => by cases e; exact ⟨h, h2⟩⟩
theorem pg_bool (b : Bool) : PG K H m (.bl b) := ⟨.bool b, .bl b, (fit_bool b).mono (by decide) (by decide), fun j e => by cases e⟩
theorem pg_none : PG K H m .non := ⟨.none, .non, fit_none.mono (by decide) (by decide), fun j e => by cases e⟩
theorem pg_str (c : Str) (h1 : c.length ≤ 20) (h2 : ∀ x ∈ c.cps.toList, x < 0x110000) : PG K H m (.str c) := by
  refine ⟨.str c, .str c, ⟨rfl, Nat.zero_le _, ?_⟩, fun j e => by cases e⟩
  have q := PySem.StrLaws.reprText_len c fun x hx => Nat.lt_of_lt_of_le (h2 x hx) (by decide)
  show (reprText c).length ≤ 3000
  omega
theorem pg_way (b : Bool) : PG K H m (.str (wayS b)) := by
  cases b
  · exact pg_str _ (by decide +kernel) (by decide +kernel)
  · exact pg_str _ (by decide +kernel) (by decide +kernel)
theorem pg_tup1 {p : Addr} {d : PyData} (hp : SqT K H p [v]) (h : Dq K H v d) (f : Fit 210 0 d) : PG K H m (.ref p) :=
  ⟨.tuple [d], .tup hp (.cons h .nil), (fit_tup (L := 210) (n := 0) fun x hx => by rw [List.mem_singleton.mp hx]; exact f).mono (by show 1 * 212 + 3 ≤ 3000; decide) (by decide), fun j e => by cases e⟩
theorem pg_lst1 {p : Addr} {d : PyData} (hp : SqL K H p [v]) (h : Dq K H v d) (f : Fit 210 0 d) : PG K H m (.ref p) :=
  ⟨.list [d], .lst hp (.cons h .nil), (fit_list (L := 210) (n := 0) fun x hx => by rw [List.mem_singleton.mp hx]; exact f).mono (by show 1 * 212 + 3 ≤ 3000; decide) (by decide), fun j e => by cases e⟩
theorem dict0 {p : Addr} (hp : H p = some (.dK [])) : Dq K H (.ref p) (.dict (([] : List PyData).zip [])) := .dct (ks := []) (vs := []) hp .nil .nil
theorem fit_d0 : Fit 210 1 (.dict (([] : List PyData).zip [])) := ⟨by decide +kernel, by decide +kernel, by decide +kernel⟩
theorem pg_dict0 {p : Addr} (hp : H p = some (.dK [])) : PG K H m (.ref p) := ⟨_, dict0 hp, fit_d0.mono (by decide) (by decide), fun j e => by cases e⟩
theorem it3 {m : Int} {a b c : PyData} (ha : ∀ i, a = .int i → i.natAbs ≤ 10 ^ 60) (hb : ∀ i, b = .int i → i < m) : itB m (.tuple [a, b, c]) = true := by
  cases a with
  | int t =>
    cases b with
    | int k =>
      cases c with
      | str w =>
        show (decide (t.natAbs ≤ 10 ^ 60) && decide (k < m)) = true
        rw [decide_eq_true (ha t rfl), decide_eq_true (hb k rfl)]; rfl
      | _ => rfl
    | _ => rfl
  | _ => rfl
theorem it2 {m : Int} {a b : PyData} (ha : ∀ i, a = .int i → i < m) : itB m (.tuple [a, b]) = true := by
  cases a with
  | int t =>
    cases b with
    | str w =>
      show decide (t < m) = true
      exact decide_eq_true (ha t rfl)
    | _ => rfl
  | _ => rfl
theorem it1 {m : Int} {a : PyData} : itB m (.tuple [a]) = true := by cases a <;> rfl
theorem it4 {m : Int} {a b c d : PyData} : itB m (.tuple [a, b, c, d]) = true := by
  cases a <;> first | rfl | (cases b <;> first | rfl | (cases c <;> rfl))
theorem fit_parts {ds : List PyData} (h : ∀ d ∈ ds, Fit 3000 2 d) (hl : ds.length ≤ 4) : Fit 15000 3 (.tuple ds) := (fit_tup (L := 3000) (n := 2) h).mono (by omega) (by decide)
theorem gi3 {p : Addr} {a b c : V} (hp : H p = some (.tup [a, b, c])) (ga : PG K H m a) (gb : PG K H Mx b) (gc : PG K H m' c) : GI K H (.ref p) := by
  obtain ⟨da, a1, a2, a3⟩ := ga
  obtain ⟨db, b1, b2, b3⟩ := gb
  obtain ⟨dc, c1, c2, c3⟩ := gc
  refine ⟨.tuple [da, db, dc], .tup (SqT.of hp) (.cons a1 (.cons b1 (.cons c1 .nil))), fit_parts (fun d hd => ?_) (by show 3 ≤ 4; decide), fit_parts (fun d hd => ?_) (by show 2 ≤ 4; decide), it3 (fun i e => (a3 i e).1) (fun i e => (b3 i e).2), it2 (fun i e => (b3 i e).2)⟩
  · simp only [List.mem_cons, List.mem_nil_iff, or_false] at hd
    rcases hd with rfl | rfl | rfl
    · exact a2
    · exact b2
    · exact c2
  · have hd : d ∈ [db, dc] := hd
    simp only [List.mem_cons, List.mem_nil_iff, or_false] at hd
    rcases hd with rfl | rfl
    · exact b2
    · exact c2
theorem gi2 {p : Addr} {a b : V} (hp : H p = some (.tup [a, b])) (ga : PG K H Mx a) (gb : PG K H m b) : GI K H (.ref p) := by
  obtain ⟨da, a1, a2, a3⟩ := ga
  obtain ⟨db, b1, b2, b3⟩ := gb
  refine ⟨.tuple [da, db], .tup (SqT.of hp) (.cons a1 (.cons b1 .nil)), fit_parts (fun d hd => ?_) (by show 2 ≤ 4; decide), fit_parts (fun d hd => ?_) (by show 1 ≤ 4; decide), it2 (fun i e => (a3 i e).2), it1⟩
  · simp only [List.mem_cons, List.mem_nil_iff, or_false] at hd
    rcases hd with rfl | rfl
    · exact a2
    · exact b2
  · rw [List.mem_singleton.mp (show d ∈ [db] from hd)]; exact b2
theorem gi4 {p : Addr} {a b c d : V} (hp : H p = some (.tup [a, b, c, d])) (ga : PG K H m a) (gb : PG K H Mx b) (gc : PG K H Mx c) (gd : PG K H m' d) : GI K H (.ref p) := by
  obtain ⟨da, a1, a2, a3⟩ := ga
  obtain ⟨db, b1, b2, b3⟩ := gb
  obtain ⟨dc, c1, c2, c3⟩ := gc
  obtain ⟨dd, d1, d2, d3⟩ := gd
  refine ⟨.tuple [da, db, dc, dd], .tup (SqT.of hp) (.cons a1 (.cons b1 (.cons c1 (.cons d1 .nil)))), fit_parts (fun d hd => ?_) (by show 4 ≤ 4; decide), fit_parts (fun d hd => ?_) (by show 3 ≤ 4; decide), it4, it3 (fun i e => (b3 i e).1) (fun i e => (c3 i e).2)⟩
  · simp only [List.mem_cons, List.mem_nil_iff, or_false] at hd
    rcases hd with rfl | rfl | rfl | rfl
    · exact a2
    · exact b2
    · exact c2
    · exact d2
  · have hd : d ∈ [db, dc, dd] := hd
    simp only [List.mem_cons, List.mem_nil_iff, or_false] at hd
    rcases hd with rfl | rfl | rfl
    · exact b2
    · exact c2
    · exact d2
theorem gi_flat {d : PyData} (h : Dq K H v d) (f : Fit 210 1 d) (ht : tailD d = d) (hi : itB Mx d = true) : GI K H v :=
  ⟨d, h, f.mono (by decide) (by decide), by rw [ht]; exact f.mono (by decide) (by decide), hi, by rw [ht]; exact hi⟩
theorem gi_lst3 {p : Addr} {a b c : V} (hp : H p = some (.lst [a, b, c])) (ga : PG K H m a) (gb : PG K H Mx b) (gc : PG K H m' c) : GI K H (.ref p) := by
  obtain ⟨da, a1, a2, a3⟩ := ga
  obtain ⟨db, b1, b2, b3⟩ := gb
  obtain ⟨dc, c1, c2, c3⟩ := gc
  have f : Fit 15000 3 (.list [da, db, dc]) := (fit_list (L := 3000) (n := 2) fun d hd => by
    simp only [List.mem_cons, List.mem_nil_iff, or_false] at hd
    rcases hd with rfl | rfl | rfl
    · exact a2
    · exact b2
    · exact c2).mono (by show 3 * 3002 + 3 ≤ 15000; decide) (by decide)
  exact ⟨.list [da, db, dc], .lst (SqL.of hp) (.cons a1 (.cons b1 (.cons c1 .nil))), f, f, rfl, rfl⟩
theorem all_of {R : PyData → Prop} : ∀ {vs : List V}, (∀ v ∈ vs, ∃ d, Dq K H v d ∧ R d) → ∃ ds, DqAll K H vs ds ∧ ds.length = vs.length ∧ ∀ d ∈ ds, R d
  | [], _ => ⟨[], .nil, rfl, fun d h => by simp at h⟩
  | v :: vs, h => by
    obtain ⟨ds, a, b, c⟩ := all_of (vs := vs) fun x hx => h x (List.mem_cons_of_mem _ hx)
    obtain ⟨d, e, f⟩ := h v List.mem_cons_self
    refine ⟨d :: ds, .cons e a, congrArg (· + 1) b, fun x hx => ?_⟩
    rcases List.mem_cons.mp hx with rfl | hx
    · exact f
    · exact c x hx
end
end K05

set_option Elab.async false
set_option linter.all false
set_option maxRecDepth 100000
set_option maxHeartbeats 8000000
namespace K05
open PySem PySem.Spec PyProof.Rows L2 Gd Rm
section
variable {P : Program} {w : World} {K : PySem.W.Frag} {mg : Str → Option Value} {base : Heap}
def spOdd (K : PySem.W.Frag) : Sp := fun vs H Q _ => ∃ (t k : Int) (b : Bool) (r : Addr) (n : Nat), vs = [.int t, .int k, .str (wayS b)] ∧ Reel H r n ∧ t.natAbs ≤ 10 ^ 30 ∧ 0 ≤ k ∧ k ≤ 10 ^ 33 ∧
  ∀ H' p xs, Same H H' → H p = none → H' p = some (.lst xs) → GIs K (wo [r] H') xs → xs.length = 37 → Q (.ref p) H'
theorem hasReel {H : Hp} {r : Addr} {n : Nat} (R : Reel H r n) : Has H [r] := by
  obtain ⟨x, y, z, h, _⟩ := R
  exact Has.one h
theorem Reel.new {H : Hp} {r b : Addr} {n : Nat} (h : Reel H r n) (nb : H b = none) : b ≠ r := by
  obtain ⟨_, _, _, hr, _⟩ := h
  exact (ne_of_none hr nb).symm
theorem way_ix2 (b : Bool) : ∃ c : Bool, atI [V.str ("down" : String), V.str ("up" : String)] (if decide (V.str (wayS b) = V.str "down") = true then 1 else 0) = some (.str (wayS c)) := by cases b <;> first | exact ⟨true, by decide +kernel⟩ | exact ⟨false, by decide +kernel⟩
theorem ok__law_odd_events (bt : Bt mg) (a : At K mg "_law_odd_events" s__law_odd_events ["_law_tick", "_law_key", "_law_way"]) : Cl P w K mg base 1 "_law_odd_events" (spOdd K) := by
  refine clG a sc__law_odd_events (fun vs H Q E h => ?_) (fun f cdv A outer s H vs Q hg hr h => ?_)
  · obtain ⟨t, k, b, r, n, rfl, _⟩ := h
    rfl
  · obtain ⟨t, k, b, r, n, rfl, R, ht, k0, k1, q⟩ := h
    refine ⟨_, (pss_cons (ps_set (i := 3) sc__law_odd_events.nd rfl (Or.inl rfl) (pe_ix ix_list (pe_lst (pa_cons pe_str (pa_cons pe_str pa_nil))) (pe_callTy call_int1 (by rfl) bt.m_int (by decide +kernel) (pa_cons (pe_cmpR op_eq (pv 2) pe_str (nomark _)) pa_nil)) (fun _ _ => rfl)))
      (pss_cons (ps_set (i := 4) sc__law_odd_events.nd rfl (Or.inl rfl) (pe_lst (pa_cons pe_non (pa_cons pe_int (pa_cons pe_str (pa_cons (pe_tup pa_nil) (pa_cons pe_dnewK (pa_cons (pe_lst (pa_cons (pv 0) (pa_cons (pv 1) (pa_cons (pv 2) pa_nil)))) (pa_cons (pe_tup (pa_cons (pv 0) (pa_cons (pv 1) pa_nil))) (pa_cons (pe_tup (pa_cons (pv 0) (pa_cons (pv 1) (pa_cons (pv 2) (pa_cons (pv 2) pa_nil))))) (pa_cons (pe_tup (pa_cons (pv 1) (pa_cons (pv 2) pa_nil))) (pa_cons (pe_tup (pa_cons (pv 0) (pa_cons (pv 1) (pa_cons (pv 3) pa_nil)))) pa_nil))))))))))))
      (pss_cons (ps_set (i := 4) sc__law_odd_events.nd rfl (Or.inl rfl) (pe_op op_cat (pv 4) (pe_lc (own := [("_law_one", 5)]) (g := (gName 5)) (by rfl) sc__law_odd_events.nd (pi_list (pe_lst (pa_cons pe_non (pa_cons pe_bl (pa_cons pe_str (pa_cons (pe_tup (pa_cons (pv 0) pa_nil)) (pa_cons (pe_lst (pa_cons (pv 0) pa_nil)) (pa_cons (pe_op op_sub (pv 0) pe_int) (pa_cons (pe_op op_sub (pv 0) (pe_op op_powW pe_int pe_int)) (pa_cons (pe_op op_powW pe_int pe_int) pa_nil)))))))))) (blkOk_by (N := n__law_odd_events) (sc := defScope s__law_odd_events) (by decide +kernel)) (fun _ _ _ _ _ => (pg_name (i := 5) sc__law_odd_events.nd rfl (Or.inl rfl))) (fun _ _ _ _ _ => pts_nil) (fun _ _ _ _ _ => (pe_tup (pa_cons (pv 5) (pa_cons (pv 1) (pa_cons (pv 2) pa_nil))))))))
      (pss_cons (ps_set (i := 4) sc__law_odd_events.nd rfl (Or.inl rfl) (pe_op op_cat (pv 4) (pe_lc (own := [("_law_one", 5)]) (g := (gName 5)) (by rfl) sc__law_odd_events.nd (pi_list (pe_lst (pa_cons pe_non (pa_cons pe_bl (pa_cons pe_bl (pa_cons (pe_un un_neg pe_int) (pa_cons pe_str (pa_cons (pe_lst (pa_cons (pv 1) pa_nil)) (pa_cons (pe_tup (pa_cons (pv 1) pa_nil)) (pa_cons pe_dnewK (pa_cons (pe_op op_powW pe_int pe_int) pa_nil))))))))))) (blkOk_by (N := n__law_odd_events) (sc := defScope s__law_odd_events) (by decide +kernel)) (fun _ _ _ _ _ => (pg_name (i := 5) sc__law_odd_events.nd rfl (Or.inl rfl))) (fun _ _ _ _ _ => pts_nil) (fun _ _ _ _ _ => (pe_tup (pa_cons (pv 0) (pa_cons (pv 5) (pa_cons (pv 2) pa_nil))))))))
      (pss_cons (ps_set (i := 4) sc__law_odd_events.nd rfl (Or.inl rfl) (pe_op op_cat (pv 4) (pe_lst (pa_cons (pe_tup (pa_cons (pv 0) (pa_cons (pe_op op_powW pe_int pe_int) (pa_cons pe_str pa_nil)))) (pa_cons (pe_tup (pa_cons (pv 0) (pa_cons (pv 1) (pa_cons pe_non pa_nil)))) (pa_cons (pe_tup (pa_cons (pv 0) (pa_cons (pv 1) (pa_cons pe_str pa_nil)))) (pa_cons (pe_tup (pa_cons (pv 0) (pa_cons (pv 1) (pa_cons pe_str pa_nil)))) (pa_cons (pe_tup (pa_cons (pv 0) (pa_cons (pv 1) (pa_cons pe_int pa_nil)))) pa_nil))))))))
      (pss_one (ps_ret (pe_op op_cat (pv 4) (pe_lst (pa_cons (pe_tup (pa_cons (pv 0) (pa_cons (pv 1) (pa_cons (pe_lst (pa_cons pe_str pa_nil)) pa_nil)))) (pa_cons (pe_tup (pa_cons (pv 0) (pa_cons (pv 1) (pa_cons (pe_tup (pa_cons pe_str pa_nil)) pa_nil)))) (pa_cons (pe_tup (pa_cons (pv 2) (pa_cons (pv 1) (pa_cons (pv 0) pa_nil)))) (pa_cons (pe_tup (pa_cons (pv 0) (pa_cons (pv 2) (pa_cons (pv 1) pa_nil)))) (pa_cons (pe_tup (pa_cons (pv 0) (pa_cons (pv 1) (pa_cons pe_bl pa_nil)))) pa_nil)))))))))))))), ?_⟩
    have sA := Same.refl H
    have gT : ∀ {H : Hp}, PG K H Mx (.int t) := pg_int (by omega) (by show t < 10 ^ 40; omega)
    have gK : ∀ {H : Hp}, PG K H Mx (.int k) := pg_int (by omega) (by show k < 10 ^ 40; omega)
    have gW : ∀ {H : Hp} {c : Bool}, PG K H Mx (.str (wayS c)) := pg_way _
    have gi : GIs K (wo [r] H) [] := GIs.nil
    rw [show L2.start n__law_odd_events [V.int t, V.int k, V.str (wayS b)] = [some (V.int t), some (V.int k), some (V.str (wayS b)), none, none, none] from rfl]
    refine ⟨(by show 2 ≤ sizeLine; decide), fun p1 n1 => ?_⟩
    have s1 := same_upd (o := .lst [.str ("down" : String), .str ("up" : String)]) n1
    have e1 := upd_same (H := H) (a := p1) (o := .lst [.str ("down" : String), .str ("up" : String)])
    refine (fun (G : ∀ H_1 : Hp, Same H H_1 → H_1 p1 = some (.lst [.str ("down" : String), .str ("up" : String)]) → _) => G _ s1 e1) (fun H_1 s1 e1 => ?_)
    have d1 : p1 ≠ r := (R.same sA).new n1
    have w1 := wo_at (S := [r]) e1 (fun X hX => by rw [List.mem_singleton.mp hX]; exact d1)
    have gi := gi.same (wo_same (S := [r]) s1)
    have sA := sA.trans s1
    obtain ⟨co, hco⟩ := way_ix2 b
    refine ⟨_, rfl, rfl, .inr ⟨_, rfl, p1, _, _, .str (wayS co), rfl, rfl, SqL.of e1, hco, ?_⟩⟩
    dsimp only [gName]
    rw [show List.set ([some (V.int t), some (V.int k), some (V.str (wayS b)), none, none, none] : List (Option V)) 3 (some (V.str (wayS co))) = [some (V.int t), some (V.int k), some (V.str (wayS b)), some (V.str (wayS co)), none, none] from rfl]
    have gi := GIs.app gi (.cons (gi_flat .non (fit_none.mono (by decide) (by decide)) rfl rfl) .nil)
    have gi := GIs.app gi (.cons (gi_flat (.int 0) ((fit_int (by decide)).mono (by decide) (by decide)) rfl rfl) .nil)
    have gi := GIs.app gi (.cons ((gi_flat (d := .str ("" : String)) (.str _) ⟨rfl, Nat.zero_le _, by decide +kernel⟩ rfl rfl)) .nil)
    refine ⟨Nat.zero_le _, fun p2 n2 => ?_⟩
    have s2 := same_upd (o := .tup []) n2
    have e2 := upd_same (H := H_1) (a := p2) (o := .tup [])
    refine (fun (G : ∀ H_2 : Hp, Same H_1 H_2 → H_2 p2 = some (.tup []) → _) => G _ s2 e2) (fun H_2 s2 e2 => ?_)
    have d2 : p2 ≠ r := (R.same sA).new n2
    have w2 := wo_at (S := [r]) e2 (fun X hX => by rw [List.mem_singleton.mp hX]; exact d2)
    have gi := gi.same (wo_same (S := [r]) s2)
    have sA := sA.trans s2
    have gi := GIs.app gi (.cons (gi_flat (d := .tuple []) (.tup (SqT.of w2) .nil) ⟨by decide +kernel, by decide +kernel, by decide +kernel⟩ rfl rfl) .nil)
    refine fun p3 n3 => ?_
    have s3 := same_upd (o := .dK []) n3
    have e3 := upd_same (H := H_2) (a := p3) (o := .dK [])
    refine (fun (G : ∀ H_3 : Hp, Same H_2 H_3 → H_3 p3 = some (.dK []) → _) => G _ s3 e3) (fun H_3 s3 e3 => ?_)
    have d3 : p3 ≠ r := (R.same sA).new n3
    have w3 := wo_at (S := [r]) e3 (fun X hX => by rw [List.mem_singleton.mp hX]; exact d3)
    have gi := gi.same (wo_same (S := [r]) s3)
    have sA := sA.trans s3
    have gi := GIs.app gi (.cons (gi_flat (dict0 w3) fit_d0 rfl rfl) .nil)
    refine ⟨_, rfl, _, rfl, _, rfl, (by show 3 ≤ sizeLine; decide), fun p4 n4 => ?_⟩
    have s4 := same_upd (o := .lst [.int t, .int k, .str (wayS b)]) n4
    have e4 := upd_same (H := H_3) (a := p4) (o := .lst [.int t, .int k, .str (wayS b)])
    refine (fun (G : ∀ H_4 : Hp, Same H_3 H_4 → H_4 p4 = some (.lst [.int t, .int k, .str (wayS b)]) → _) => G _ s4 e4) (fun H_4 s4 e4 => ?_)
    have d4 : p4 ≠ r := (R.same sA).new n4
    have w4 := wo_at (S := [r]) e4 (fun X hX => by rw [List.mem_singleton.mp hX]; exact d4)
    have gi := gi.same (wo_same (S := [r]) s4)
    have sA := sA.trans s4
    have gi := GIs.app gi (.cons (gi_lst3 w4 gT gK gW) .nil)
    refine ⟨_, rfl, _, rfl, (by show 2 ≤ sizeLine; decide), fun p5 n5 => ?_⟩
    have s5 := same_upd (o := .tup [.int t, .int k]) n5
    have e5 := upd_same (H := H_4) (a := p5) (o := .tup [.int t, .int k])
    refine (fun (G : ∀ H_5 : Hp, Same H_4 H_5 → H_5 p5 = some (.tup [.int t, .int k]) → _) => G _ s5 e5) (fun H_5 s5 e5 => ?_)
    have d5 : p5 ≠ r := (R.same sA).new n5
    have w5 := wo_at (S := [r]) e5 (fun X hX => by rw [List.mem_singleton.mp hX]; exact d5)
    have gi := gi.same (wo_same (S := [r]) s5)
    have sA := sA.trans s5
    have gi := GIs.app gi (.cons (gi2 w5 gT gK) .nil)
    refine ⟨_, rfl, _, rfl, _, rfl, _, rfl, (by show 4 ≤ sizeLine; decide), fun p6 n6 => ?_⟩
    have s6 := same_upd (o := .tup [.int t, .int k, .str (wayS b), .str (wayS b)]) n6
    have e6 := upd_same (H := H_5) (a := p6) (o := .tup [.int t, .int k, .str (wayS b), .str (wayS b)])
    refine (fun (G : ∀ H_6 : Hp, Same H_5 H_6 → H_6 p6 = some (.tup [.int t, .int k, .str (wayS b), .str (wayS b)]) → _) => G _ s6 e6) (fun H_6 s6 e6 => ?_)
    have d6 : p6 ≠ r := (R.same sA).new n6
    have w6 := wo_at (S := [r]) e6 (fun X hX => by rw [List.mem_singleton.mp hX]; exact d6)
    have gi := gi.same (wo_same (S := [r]) s6)
    have sA := sA.trans s6
    have gi := GIs.app gi (.cons (gi4 w6 gT gK gW gW) .nil)
    refine ⟨_, rfl, _, rfl, (by show 2 ≤ sizeLine; decide), fun p7 n7 => ?_⟩
    have s7 := same_upd (o := .tup [.int k, .str (wayS b)]) n7
    have e7 := upd_same (H := H_6) (a := p7) (o := .tup [.int k, .str (wayS b)])
    refine (fun (G : ∀ H_7 : Hp, Same H_6 H_7 → H_7 p7 = some (.tup [.int k, .str (wayS b)]) → _) => G _ s7 e7) (fun H_7 s7 e7 => ?_)
    have d7 : p7 ≠ r := (R.same sA).new n7
    have w7 := wo_at (S := [r]) e7 (fun X hX => by rw [List.mem_singleton.mp hX]; exact d7)
    have gi := gi.same (wo_same (S := [r]) s7)
    have sA := sA.trans s7
    have gi := GIs.app gi (.cons (gi2 w7 gK gW) .nil)
    refine ⟨_, rfl, _, rfl, _, rfl, (by show 3 ≤ sizeLine; decide), fun p8 n8 => ?_⟩
    have s8 := same_upd (o := .tup [.int t, .int k, .str (wayS co)]) n8
    have e8 := upd_same (H := H_7) (a := p8) (o := .tup [.int t, .int k, .str (wayS co)])
    refine (fun (G : ∀ H_8 : Hp, Same H_7 H_8 → H_8 p8 = some (.tup [.int t, .int k, .str (wayS co)]) → _) => G _ s8 e8) (fun H_8 s8 e8 => ?_)
    have d8 : p8 ≠ r := (R.same sA).new n8
    have w8 := wo_at (S := [r]) e8 (fun X hX => by rw [List.mem_singleton.mp hX]; exact d8)
    have gi := gi.same (wo_same (S := [r]) s8)
    have sA := sA.trans s8
    have gi := GIs.app gi (.cons (gi3 w8 gT gK gW) .nil)
    refine ⟨(by show 10 ≤ sizeLine; decide), fun p9 n9 => ?_⟩
    have s9 := same_upd (o := .lst [.non, .int 0, .str ("" : String), .ref p2, .ref p3, .ref p4, .ref p5, .ref p6, .ref p7, .ref p8]) n9
    have e9 := upd_same (H := H_8) (a := p9) (o := .lst [.non, .int 0, .str ("" : String), .ref p2, .ref p3, .ref p4, .ref p5, .ref p6, .ref p7, .ref p8])
    refine (fun (G : ∀ H_9 : Hp, Same H_8 H_9 → H_9 p9 = some (.lst [.non, .int 0, .str ("" : String), .ref p2, .ref p3, .ref p4, .ref p5, .ref p6, .ref p7, .ref p8]) → _) => G _ s9 e9) (fun H_9 s9 e9 => ?_)
    have d9 : p9 ≠ r := (R.same sA).new n9
    have w9 := wo_at (S := [r]) e9 (fun X hX => by rw [List.mem_singleton.mp hX]; exact d9)
    have gi := gi.same (wo_same (S := [r]) s9)
    have sA := sA.trans s9
    obtain ⟨xs, hS, gS, hxl⟩ : ∃ xs, H_9 p9 = some (.lst xs) ∧ GIs K (wo [r] H_9) xs ∧ xs.length = 10 := ⟨_, e9, gi, rfl⟩
    dsimp only [gName]
    rw [show List.set ([some (V.int t), some (V.int k), some (V.str (wayS b)), some (V.str (wayS co)), none, none] : List (Option V)) 4 (some (V.ref p9)) = [some (V.int t), some (V.int k), some (V.str (wayS b)), some (V.str (wayS co)), some (V.ref p9), none] from rfl]
    have gi : GIs K (wo [r] H_9) [] := GIs.nil
    refine ⟨_, rfl, _, rfl, (by show 1 ≤ sizeLine; decide), fun p10 n10 => ?_⟩
    have s10 := same_upd (o := .tup [.int t]) n10
    have e10 := upd_same (H := H_9) (a := p10) (o := .tup [.int t])
    refine (fun (G : ∀ H_10 : Hp, Same H_9 H_10 → H_10 p10 = some (.tup [.int t]) → _) => G _ s10 e10) (fun H_10 s10 e10 => ?_)
    have d10 : p10 ≠ r := (R.same sA).new n10
    have w10 := wo_at (S := [r]) e10 (fun X hX => by rw [List.mem_singleton.mp hX]; exact d10)
    have gS := gS.same (wo_same (S := [r]) s10)
    have hS := s10 _ _ hS
    have sA := sA.trans s10
    have g1_1 : PG K (wo [r] H_10) (10 ^ 60 + 1) (.ref p10) := pg_tup1 (d := .int t) (SqT.of w10) (.int t) (fit_int (by omega))
    refine ⟨_, rfl, (by show 1 ≤ sizeLine; decide), fun p11 n11 => ?_⟩
    have s11 := same_upd (o := .lst [.int t]) n11
    have e11 := upd_same (H := H_10) (a := p11) (o := .lst [.int t])
    refine (fun (G : ∀ H_11 : Hp, Same H_10 H_11 → H_11 p11 = some (.lst [.int t]) → _) => G _ s11 e11) (fun H_11 s11 e11 => ?_)
    have d11 : p11 ≠ r := (R.same sA).new n11
    have w11 := wo_at (S := [r]) e11 (fun X hX => by rw [List.mem_singleton.mp hX]; exact d11)
    have gS := gS.same (wo_same (S := [r]) s11)
    have g1_1 := g1_1.same (wo_same (S := [r]) s11)
    have hS := s11 _ _ hS
    have sA := sA.trans s11
    have g1_2 : PG K (wo [r] H_11) (10 ^ 60 + 1) (.ref p11) := pg_lst1 (d := .int t) (SqL.of w11) (.int t) (fit_int (by omega))
    refine ⟨_, rfl, _, _, rfl, rfl, _, rfl, _, _, rfl, rfl, powW (n := 40) (k := 15) (by decide) (by decide), _, _, rfl, rfl, _, _, rfl, rfl, powW (n := 4) (k := 60) (by decide) (by decide), (by show 8 ≤ sizeLine; decide), fun p12 n12 => ?_⟩
    have s12 := same_upd (o := .lst [.non, .bl true, .str ("0" : String), .ref p10, .ref p11, .int (t - 1), .int (t - 10 ^ Int.toNat 15), .int (10 ^ Int.toNat 60)]) n12
    have e12 := upd_same (H := H_11) (a := p12) (o := .lst [.non, .bl true, .str ("0" : String), .ref p10, .ref p11, .int (t - 1), .int (t - 10 ^ Int.toNat 15), .int (10 ^ Int.toNat 60)])
    refine (fun (G : ∀ H_12 : Hp, Same H_11 H_12 → H_12 p12 = some (.lst [.non, .bl true, .str ("0" : String), .ref p10, .ref p11, .int (t - 1), .int (t - 10 ^ Int.toNat 15), .int (10 ^ Int.toNat 60)]) → _) => G _ s12 e12) (fun H_12 s12 e12 => ?_)
    have d12 : p12 ≠ r := (R.same sA).new n12
    have w12 := wo_at (S := [r]) e12 (fun X hX => by rw [List.mem_singleton.mp hX]; exact d12)
    have gS := gS.same (wo_same (S := [r]) s12)
    have g1_1 := g1_1.same (wo_same (S := [r]) s12)
    have g1_2 := g1_2.same (wo_same (S := [r]) s12)
    have hS := s12 _ _ hS
    have sA := sA.trans s12
    obtain ⟨ods, ho, gO, hol⟩ : ∃ ods, H_12 p12 = some (.lst ods) ∧ PGs K (wo [r] H_12) (10 ^ 60 + 1) ods ∧ ods.length = 8 := ⟨_, e12, PGs.cons (pg_none) (PGs.cons (pg_bool true) (PGs.cons (pg_str ("0" : String) (by decide +kernel) (by decide +kernel)) (PGs.cons (g1_1) (PGs.cons (g1_2) (PGs.cons (pg_int (by omega) (by omega)) (PGs.cons (pg_int (by rw [show (10 : Int) ^ Int.toNat 15 = 1000000000000000 from rfl]; omega) (by rw [show (10 : Int) ^ Int.toNat 15 = 1000000000000000 from rfl]; omega)) (PGs.cons (pg_int (by decide +kernel) (by decide +kernel)) (PGs.nil)))))))), rfl⟩
    have hR0 : Has H_12 [r] := hasReel (R.same sA)
    refine ⟨p12, rfl, ⟨_, SqL.of ho⟩, fun M nM => lc_it (walk_list (xs := ods)) (fun i H' => Same H_12 H' ∧ ∃ ys, H' M = some (.lst ys) ∧ GIs K (wo [M, r] H') ys ∧ ys.length = i) ⟨same_upd nM, [], upd_same, GIs.nil, rfl⟩ (fun i H' _ p => SqL.of (p.1 _ _ ho)) (fun i x H2 H3 hi p y => ?_) (fun H2 p => ?_)⟩
    · obtain ⟨sc, ys, hM, gy, hyl⟩ := p
      obtain ⟨rfl, hx⟩ := y
      have gx := (gO x (List.mem_of_getElem? hx)).same (wo_add sc nM)
      have gsc := sc
      have sA := Same.refl H3
      have hS0 : Has H3 [M, r] := .cons hM (hR0.same sc)
      refine ⟨rfl, ?_⟩
      refine ⟨_, rfl, _, rfl, _, rfl, (by show 3 ≤ sizeLine; decide), fun p113 n113 => ?_⟩
      have s113 := same_upd (o := .tup [x, .int k, .str (wayS b)]) n113
      have e113 := upd_same (H := H3) (a := p113) (o := .tup [x, .int k, .str (wayS b)])
      refine (fun (G : ∀ H_113 : Hp, Same H3 H_113 → H_113 p113 = some (.tup [x, .int k, .str (wayS b)]) → _) => G _ s113 e113) (fun H_113 s113 e113 => ?_)
      have sA := sA.trans s113
      have git : GI K (wo [M, r] H_113) (.ref p113) := gi3 (wo_at e113 (wo_new hS0 n113)) (gx.same (wo_same s113)) gK gW
      exact ⟨_, sA _ _ hM, (by rw [sizeLine_eq]; omega), Same.off (gsc.trans sA) nM off_upd, ys ++ [.ref p113], upd_same, GIs.app ((gy.same (wo_same s113)).same (wo_upd (by simp))) (.cons (git.same (wo_upd (by simp))) .nil), by rw [List.length_append, hyl]; rfl⟩
    · obtain ⟨sc, ys, hM, gy, hyl⟩ := p
      have gS := gS.same (wo_same (S := [r]) sc)
      have hS := sc _ _ hS
      have sA := sA.trans sc
      have gy := gy.same wo_less
      refine ⟨p9, M, _, _, rfl, rfl, hS, hM, (by rw [hxl, hyl, hol, sizeLine_eq]; omega), fun p213 n213 => ?_⟩
      have s213 := same_upd (o := .lst (xs ++ ys)) n213
      have e213 := upd_same (H := H2) (a := p213) (o := .lst (xs ++ ys))
      refine (fun (G : ∀ H_213 : Hp, Same H2 H_213 → H_213 p213 = some (.lst (xs ++ ys)) → _) => G _ s213 e213) (fun H_213 s213 e213 => ?_)
      have d213 : p213 ≠ r := (R.same sA).new n213
      have w213 := wo_at (S := [r]) e213 (fun X hX => by rw [List.mem_singleton.mp hX]; exact d213)
      have gS := gS.same (wo_same (S := [r]) s213)
      have gy := gy.same (wo_same (S := [r]) s213)
      have hS := s213 _ _ hS
      have sA := sA.trans s213
      obtain ⟨xs, hS, gS, hxl⟩ : ∃ xs, H_213 p213 = some (.lst xs) ∧ GIs K (wo [r] H_213) xs ∧ xs.length = 18 := ⟨_, e213, GIs.app gS gy, by rw [List.length_append, hxl, hyl, hol]⟩
      dsimp only [gName]
      rw [show List.set ([some (V.int t), some (V.int k), some (V.str (wayS b)), some (V.str (wayS co)), some (V.ref p9), none] : List (Option V)) 4 (some (V.ref p213)) = [some (V.int t), some (V.int k), some (V.str (wayS b)), some (V.str (wayS co)), some (V.ref p213), none] from rfl]
      have gi : GIs K (wo [r] H_213) [] := GIs.nil
      refine ⟨_, rfl, 1, rfl, _, rfl, (by show 1 ≤ sizeLine; decide), fun p214 n214 => ?_⟩
      have s214 := same_upd (o := .lst [.int k]) n214
      have e214 := upd_same (H := H_213) (a := p214) (o := .lst [.int k])
      refine (fun (G : ∀ H_214 : Hp, Same H_213 H_214 → H_214 p214 = some (.lst [.int k]) → _) => G _ s214 e214) (fun H_214 s214 e214 => ?_)
      have d214 : p214 ≠ r := (R.same sA).new n214
      have w214 := wo_at (S := [r]) e214 (fun X hX => by rw [List.mem_singleton.mp hX]; exact d214)
      have gS := gS.same (wo_same (S := [r]) s214)
      have hS := s214 _ _ hS
      have sA := sA.trans s214
      have g1_3 : PG K (wo [r] H_214) Mx (.ref p214) := pg_lst1 (d := .int k) (SqL.of w214) (.int k) (fit_int (by omega))
      refine ⟨_, rfl, (by show 1 ≤ sizeLine; decide), fun p215 n215 => ?_⟩
      have s215 := same_upd (o := .tup [.int k]) n215
      have e215 := upd_same (H := H_214) (a := p215) (o := .tup [.int k])
      refine (fun (G : ∀ H_215 : Hp, Same H_214 H_215 → H_215 p215 = some (.tup [.int k]) → _) => G _ s215 e215) (fun H_215 s215 e215 => ?_)
      have d215 : p215 ≠ r := (R.same sA).new n215
      have w215 := wo_at (S := [r]) e215 (fun X hX => by rw [List.mem_singleton.mp hX]; exact d215)
      have gS := gS.same (wo_same (S := [r]) s215)
      have g1_3 := g1_3.same (wo_same (S := [r]) s215)
      have hS := s215 _ _ hS
      have sA := sA.trans s215
      have g1_4 : PG K (wo [r] H_215) Mx (.ref p215) := pg_tup1 (d := .int k) (SqT.of w215) (.int k) (fit_int (by omega))
      refine fun p216 n216 => ?_
      have s216 := same_upd (o := .dK []) n216
      have e216 := upd_same (H := H_215) (a := p216) (o := .dK [])
      refine (fun (G : ∀ H_216 : Hp, Same H_215 H_216 → H_216 p216 = some (.dK []) → _) => G _ s216 e216) (fun H_216 s216 e216 => ?_)
      have d216 : p216 ≠ r := (R.same sA).new n216
      have w216 := wo_at (S := [r]) e216 (fun X hX => by rw [List.mem_singleton.mp hX]; exact d216)
      have gS := gS.same (wo_same (S := [r]) s216)
      have g1_3 := g1_3.same (wo_same (S := [r]) s216)
      have g1_4 := g1_4.same (wo_same (S := [r]) s216)
      have hS := s216 _ _ hS
      have sA := sA.trans s216
      have g1_5 : PG K (wo [r] H_216) Mx (.ref p216) := pg_dict0 w216
      refine ⟨_, _, rfl, rfl, powW (n := 40) (k := 30) (by decide) (by decide), (by show 9 ≤ sizeLine; decide), fun p217 n217 => ?_⟩
      have s217 := same_upd (o := .lst [.non, .bl true, .bl false, .int (-1), .str ("0" : String), .ref p214, .ref p215, .ref p216, .int (10 ^ Int.toNat 30)]) n217
      have e217 := upd_same (H := H_216) (a := p217) (o := .lst [.non, .bl true, .bl false, .int (-1), .str ("0" : String), .ref p214, .ref p215, .ref p216, .int (10 ^ Int.toNat 30)])
      refine (fun (G : ∀ H_217 : Hp, Same H_216 H_217 → H_217 p217 = some (.lst [.non, .bl true, .bl false, .int (-1), .str ("0" : String), .ref p214, .ref p215, .ref p216, .int (10 ^ Int.toNat 30)]) → _) => G _ s217 e217) (fun H_217 s217 e217 => ?_)
      have d217 : p217 ≠ r := (R.same sA).new n217
      have w217 := wo_at (S := [r]) e217 (fun X hX => by rw [List.mem_singleton.mp hX]; exact d217)
      have gS := gS.same (wo_same (S := [r]) s217)
      have g1_3 := g1_3.same (wo_same (S := [r]) s217)
      have g1_4 := g1_4.same (wo_same (S := [r]) s217)
      have g1_5 := g1_5.same (wo_same (S := [r]) s217)
      have hS := s217 _ _ hS
      have sA := sA.trans s217
      obtain ⟨ods, ho, gO, hol⟩ : ∃ ods, H_217 p217 = some (.lst ods) ∧ PGs K (wo [r] H_217) Mx ods ∧ ods.length = 9 := ⟨_, e217, PGs.cons (pg_none) (PGs.cons (pg_bool true) (PGs.cons (pg_bool false) (PGs.cons (pg_int (by decide) (by decide)) (PGs.cons (pg_str ("0" : String) (by decide +kernel) (by decide +kernel)) (PGs.cons (g1_3) (PGs.cons (g1_4) (PGs.cons (g1_5) (PGs.cons (pg_int (by decide +kernel) (by decide +kernel)) (PGs.nil))))))))), rfl⟩
      have hR0 : Has H_217 [r] := hasReel (R.same sA)
      refine ⟨p217, rfl, ⟨_, SqL.of ho⟩, fun M nM => lc_it (walk_list (xs := ods)) (fun i H' => Same H_217 H' ∧ ∃ ys, H' M = some (.lst ys) ∧ GIs K (wo [M, r] H') ys ∧ ys.length = i) ⟨same_upd nM, [], upd_same, GIs.nil, rfl⟩ (fun i H' _ p => SqL.of (p.1 _ _ ho)) (fun i x H2 H3 hi p y => ?_) (fun H2 p => ?_)⟩
      · obtain ⟨sc, ys, hM, gy, hyl⟩ := p
        obtain ⟨rfl, hx⟩ := y
        have gx := (gO x (List.mem_of_getElem? hx)).same (wo_add sc nM)
        have gsc := sc
        have sA := Same.refl H3
        have hS0 : Has H3 [M, r] := .cons hM (hR0.same sc)
        refine ⟨rfl, ?_⟩
        refine ⟨_, rfl, _, rfl, _, rfl, (by show 3 ≤ sizeLine; decide), fun p318 n318 => ?_⟩
        have s318 := same_upd (o := .tup [.int t, x, .str (wayS b)]) n318
        have e318 := upd_same (H := H3) (a := p318) (o := .tup [.int t, x, .str (wayS b)])
        refine (fun (G : ∀ H_318 : Hp, Same H3 H_318 → H_318 p318 = some (.tup [.int t, x, .str (wayS b)]) → _) => G _ s318 e318) (fun H_318 s318 e318 => ?_)
        have sA := sA.trans s318
        have git : GI K (wo [M, r] H_318) (.ref p318) := gi3 (wo_at e318 (wo_new hS0 n318)) gT (gx.same (wo_same s318)) gW
        exact ⟨_, sA _ _ hM, (by rw [sizeLine_eq]; omega), Same.off (gsc.trans sA) nM off_upd, ys ++ [.ref p318], upd_same, GIs.app ((gy.same (wo_same s318)).same (wo_upd (by simp))) (.cons (git.same (wo_upd (by simp))) .nil), by rw [List.length_append, hyl]; rfl⟩
      · obtain ⟨sc, ys, hM, gy, hyl⟩ := p
        have gS := gS.same (wo_same (S := [r]) sc)
        have hS := sc _ _ hS
        have sA := sA.trans sc
        have gy := gy.same wo_less
        refine ⟨p213, M, _, _, rfl, rfl, hS, hM, (by rw [hxl, hyl, hol, sizeLine_eq]; omega), fun p418 n418 => ?_⟩
        have s418 := same_upd (o := .lst (xs ++ ys)) n418
        have e418 := upd_same (H := H2) (a := p418) (o := .lst (xs ++ ys))
        refine (fun (G : ∀ H_418 : Hp, Same H2 H_418 → H_418 p418 = some (.lst (xs ++ ys)) → _) => G _ s418 e418) (fun H_418 s418 e418 => ?_)
        have d418 : p418 ≠ r := (R.same sA).new n418
        have w418 := wo_at (S := [r]) e418 (fun X hX => by rw [List.mem_singleton.mp hX]; exact d418)
        have gS := gS.same (wo_same (S := [r]) s418)
        have gy := gy.same (wo_same (S := [r]) s418)
        have hS := s418 _ _ hS
        have sA := sA.trans s418
        obtain ⟨xs, hS, gS, hxl⟩ : ∃ xs, H_418 p418 = some (.lst xs) ∧ GIs K (wo [r] H_418) xs ∧ xs.length = 27 := ⟨_, e418, GIs.app gS gy, by rw [List.length_append, hxl, hyl, hol]⟩
        dsimp only [gName]
        rw [show List.set ([some (V.int t), some (V.int k), some (V.str (wayS b)), some (V.str (wayS co)), some (V.ref p213), none] : List (Option V)) 4 (some (V.ref p418)) = [some (V.int t), some (V.int k), some (V.str (wayS b)), some (V.str (wayS co)), some (V.ref p418), none] from rfl]
        have gi : GIs K (wo [r] H_418) [] := GIs.nil
        refine ⟨_, rfl, _, rfl, _, _, rfl, rfl, powW (n := 40) (k := 30) (by decide) (by decide), (by show 3 ≤ sizeLine; decide), fun p419 n419 => ?_⟩
        have s419 := same_upd (o := .tup [.int t, .int (10 ^ Int.toNat 30), .str ("down" : String)]) n419
        have e419 := upd_same (H := H_418) (a := p419) (o := .tup [.int t, .int (10 ^ Int.toNat 30), .str ("down" : String)])
        refine (fun (G : ∀ H_419 : Hp, Same H_418 H_419 → H_419 p419 = some (.tup [.int t, .int (10 ^ Int.toNat 30), .str ("down" : String)]) → _) => G _ s419 e419) (fun H_419 s419 e419 => ?_)
        have d419 : p419 ≠ r := (R.same sA).new n419
        have w419 := wo_at (S := [r]) e419 (fun X hX => by rw [List.mem_singleton.mp hX]; exact d419)
        have gi := gi.same (wo_same (S := [r]) s419)
        have gS := gS.same (wo_same (S := [r]) s419)
        have hS := s419 _ _ hS
        have sA := sA.trans s419
        have gi := GIs.app gi (.cons (gi3 (m' := 0) w419 gT (pg_int (by decide +kernel) (by decide +kernel)) (pg_str ("down" : String) (by decide +kernel) (by decide +kernel))) .nil)
        refine ⟨_, rfl, _, rfl, (by show 3 ≤ sizeLine; decide), fun p420 n420 => ?_⟩
        have s420 := same_upd (o := .tup [.int t, .int k, .non]) n420
        have e420 := upd_same (H := H_419) (a := p420) (o := .tup [.int t, .int k, .non])
        refine (fun (G : ∀ H_420 : Hp, Same H_419 H_420 → H_420 p420 = some (.tup [.int t, .int k, .non]) → _) => G _ s420 e420) (fun H_420 s420 e420 => ?_)
        have d420 : p420 ≠ r := (R.same sA).new n420
        have w420 := wo_at (S := [r]) e420 (fun X hX => by rw [List.mem_singleton.mp hX]; exact d420)
        have gi := gi.same (wo_same (S := [r]) s420)
        have gS := gS.same (wo_same (S := [r]) s420)
        have hS := s420 _ _ hS
        have sA := sA.trans s420
        have gi := GIs.app gi (.cons (gi3 (m' := 1) w420 gT gK (pg_none)) .nil)
        refine ⟨_, rfl, _, rfl, (by show 3 ≤ sizeLine; decide), fun p421 n421 => ?_⟩
        have s421 := same_upd (o := .tup [.int t, .int k, .str ("Down" : String)]) n421
        have e421 := upd_same (H := H_420) (a := p421) (o := .tup [.int t, .int k, .str ("Down" : String)])
        refine (fun (G : ∀ H_421 : Hp, Same H_420 H_421 → H_421 p421 = some (.tup [.int t, .int k, .str ("Down" : String)]) → _) => G _ s421 e421) (fun H_421 s421 e421 => ?_)
        have d421 : p421 ≠ r := (R.same sA).new n421
        have w421 := wo_at (S := [r]) e421 (fun X hX => by rw [List.mem_singleton.mp hX]; exact d421)
        have gi := gi.same (wo_same (S := [r]) s421)
        have gS := gS.same (wo_same (S := [r]) s421)
        have hS := s421 _ _ hS
        have sA := sA.trans s421
        have gi := GIs.app gi (.cons (gi3 (m' := 1) w421 gT gK (pg_str ("Down" : String) (by decide +kernel) (by decide +kernel))) .nil)
        refine ⟨_, rfl, _, rfl, (by show 3 ≤ sizeLine; decide), fun p422 n422 => ?_⟩
        have s422 := same_upd (o := .tup [.int t, .int k, .str ("" : String)]) n422
        have e422 := upd_same (H := H_421) (a := p422) (o := .tup [.int t, .int k, .str ("" : String)])
        refine (fun (G : ∀ H_422 : Hp, Same H_421 H_422 → H_422 p422 = some (.tup [.int t, .int k, .str ("" : String)]) → _) => G _ s422 e422) (fun H_422 s422 e422 => ?_)
        have d422 : p422 ≠ r := (R.same sA).new n422
        have w422 := wo_at (S := [r]) e422 (fun X hX => by rw [List.mem_singleton.mp hX]; exact d422)
        have gi := gi.same (wo_same (S := [r]) s422)
        have gS := gS.same (wo_same (S := [r]) s422)
        have hS := s422 _ _ hS
        have sA := sA.trans s422
        have gi := GIs.app gi (.cons (gi3 (m' := 1) w422 gT gK (pg_str ("" : String) (by decide +kernel) (by decide +kernel))) .nil)
        refine ⟨_, rfl, _, rfl, (by show 3 ≤ sizeLine; decide), fun p423 n423 => ?_⟩
        have s423 := same_upd (o := .tup [.int t, .int k, .int 0]) n423
        have e423 := upd_same (H := H_422) (a := p423) (o := .tup [.int t, .int k, .int 0])
        refine (fun (G : ∀ H_423 : Hp, Same H_422 H_423 → H_423 p423 = some (.tup [.int t, .int k, .int 0]) → _) => G _ s423 e423) (fun H_423 s423 e423 => ?_)
        have d423 : p423 ≠ r := (R.same sA).new n423
        have w423 := wo_at (S := [r]) e423 (fun X hX => by rw [List.mem_singleton.mp hX]; exact d423)
        have gi := gi.same (wo_same (S := [r]) s423)
        have gS := gS.same (wo_same (S := [r]) s423)
        have hS := s423 _ _ hS
        have sA := sA.trans s423
        have gi := GIs.app gi (.cons (gi3 (m' := 1) w423 gT gK (pg_int (by decide) (by decide))) .nil)
        refine ⟨(by show 5 ≤ sizeLine; decide), fun p424 n424 => ?_⟩
        have s424 := same_upd (o := .lst [.ref p419, .ref p420, .ref p421, .ref p422, .ref p423]) n424
        have e424 := upd_same (H := H_423) (a := p424) (o := .lst [.ref p419, .ref p420, .ref p421, .ref p422, .ref p423])
        refine (fun (G : ∀ H_424 : Hp, Same H_423 H_424 → H_424 p424 = some (.lst [.ref p419, .ref p420, .ref p421, .ref p422, .ref p423]) → _) => G _ s424 e424) (fun H_424 s424 e424 => ?_)
        have d424 : p424 ≠ r := (R.same sA).new n424
        have w424 := wo_at (S := [r]) e424 (fun X hX => by rw [List.mem_singleton.mp hX]; exact d424)
        have gi := gi.same (wo_same (S := [r]) s424)
        have gS := gS.same (wo_same (S := [r]) s424)
        have hS := s424 _ _ hS
        have sA := sA.trans s424
        refine ⟨p418, p424, _, _, rfl, rfl, hS, e424, (by rw [hxl]; show 32 ≤ sizeLine; decide), fun p425 n425 => ?_⟩
        have s425 := same_upd (o := .lst (xs ++ [.ref p419, .ref p420, .ref p421, .ref p422, .ref p423])) n425
        have e425 := upd_same (H := H_424) (a := p425) (o := .lst (xs ++ [.ref p419, .ref p420, .ref p421, .ref p422, .ref p423]))
        refine (fun (G : ∀ H_425 : Hp, Same H_424 H_425 → H_425 p425 = some (.lst (xs ++ [.ref p419, .ref p420, .ref p421, .ref p422, .ref p423])) → _) => G _ s425 e425) (fun H_425 s425 e425 => ?_)
        have d425 : p425 ≠ r := (R.same sA).new n425
        have w425 := wo_at (S := [r]) e425 (fun X hX => by rw [List.mem_singleton.mp hX]; exact d425)
        have gi := gi.same (wo_same (S := [r]) s425)
        have gS := gS.same (wo_same (S := [r]) s425)
        have hS := s425 _ _ hS
        have sA := sA.trans s425
        obtain ⟨xs, hS, gS, hxl⟩ : ∃ xs, H_425 p425 = some (.lst xs) ∧ GIs K (wo [r] H_425) xs ∧ xs.length = 32 := ⟨_, e425, GIs.app gS gi, by rw [List.length_append, hxl]; rfl⟩
        dsimp only [gName]
        rw [show List.set ([some (V.int t), some (V.int k), some (V.str (wayS b)), some (V.str (wayS co)), some (V.ref p418), none] : List (Option V)) 4 (some (V.ref p425)) = [some (V.int t), some (V.int k), some (V.str (wayS b)), some (V.str (wayS co)), some (V.ref p425), none] from rfl]
        have gi : GIs K (wo [r] H_425) [] := GIs.nil
        refine ⟨_, rfl, _, rfl, _, rfl, (by show 1 ≤ sizeLine; decide), fun p426 n426 => ?_⟩
        have s426 := same_upd (o := .lst [.str ("down" : String)]) n426
        have e426 := upd_same (H := H_425) (a := p426) (o := .lst [.str ("down" : String)])
        refine (fun (G : ∀ H_426 : Hp, Same H_425 H_426 → H_426 p426 = some (.lst [.str ("down" : String)]) → _) => G _ s426 e426) (fun H_426 s426 e426 => ?_)
        have d426 : p426 ≠ r := (R.same sA).new n426
        have w426 := wo_at (S := [r]) e426 (fun X hX => by rw [List.mem_singleton.mp hX]; exact d426)
        have gi := gi.same (wo_same (S := [r]) s426)
        have gS := gS.same (wo_same (S := [r]) s426)
        have hS := s426 _ _ hS
        have sA := sA.trans s426
        have ga : PG K (wo [r] H_426) 1 (.ref p426) := pg_lst1 (d := .str ("down" : String)) (SqL.of w426) (.str _) ⟨rfl, Nat.zero_le _, by decide +kernel⟩
        refine ⟨(by show 3 ≤ sizeLine; decide), fun p427 n427 => ?_⟩
        have s427 := same_upd (o := .tup [.int t, .int k, .ref p426]) n427
        have e427 := upd_same (H := H_426) (a := p427) (o := .tup [.int t, .int k, .ref p426])
        refine (fun (G : ∀ H_427 : Hp, Same H_426 H_427 → H_427 p427 = some (.tup [.int t, .int k, .ref p426]) → _) => G _ s427 e427) (fun H_427 s427 e427 => ?_)
        have d427 : p427 ≠ r := (R.same sA).new n427
        have w427 := wo_at (S := [r]) e427 (fun X hX => by rw [List.mem_singleton.mp hX]; exact d427)
        have gi := gi.same (wo_same (S := [r]) s427)
        have gS := gS.same (wo_same (S := [r]) s427)
        have hS := s427 _ _ hS
        have sA := sA.trans s427
        have gi := GIs.app gi (.cons (gi3 w427 gT gK (ga.same (wo_same (S := [r]) s427))) .nil)
        refine ⟨_, rfl, _, rfl, (by show 1 ≤ sizeLine; decide), fun p428 n428 => ?_⟩
        have s428 := same_upd (o := .tup [.str ("down" : String)]) n428
        have e428 := upd_same (H := H_427) (a := p428) (o := .tup [.str ("down" : String)])
        refine (fun (G : ∀ H_428 : Hp, Same H_427 H_428 → H_428 p428 = some (.tup [.str ("down" : String)]) → _) => G _ s428 e428) (fun H_428 s428 e428 => ?_)
        have d428 : p428 ≠ r := (R.same sA).new n428
        have w428 := wo_at (S := [r]) e428 (fun X hX => by rw [List.mem_singleton.mp hX]; exact d428)
        have gi := gi.same (wo_same (S := [r]) s428)
        have gS := gS.same (wo_same (S := [r]) s428)
        have hS := s428 _ _ hS
        have sA := sA.trans s428
        have ga : PG K (wo [r] H_428) 1 (.ref p428) := pg_tup1 (d := .str ("down" : String)) (SqT.of w428) (.str _) ⟨rfl, Nat.zero_le _, by decide +kernel⟩
        refine ⟨(by show 3 ≤ sizeLine; decide), fun p429 n429 => ?_⟩
        have s429 := same_upd (o := .tup [.int t, .int k, .ref p428]) n429
        have e429 := upd_same (H := H_428) (a := p429) (o := .tup [.int t, .int k, .ref p428])
        refine (fun (G : ∀ H_429 : Hp, Same H_428 H_429 → H_429 p429 = some (.tup [.int t, .int k, .ref p428]) → _) => G _ s429 e429) (fun H_429 s429 e429 => ?_)
        have d429 : p429 ≠ r := (R.same sA).new n429
        have w429 := wo_at (S := [r]) e429 (fun X hX => by rw [List.mem_singleton.mp hX]; exact d429)
        have gi := gi.same (wo_same (S := [r]) s429)
        have gS := gS.same (wo_same (S := [r]) s429)
        have hS := s429 _ _ hS
        have sA := sA.trans s429
        have gi := GIs.app gi (.cons (gi3 w429 gT gK (ga.same (wo_same (S := [r]) s429))) .nil)
        refine ⟨_, rfl, _, rfl, _, rfl, (by show 3 ≤ sizeLine; decide), fun p430 n430 => ?_⟩
        have s430 := same_upd (o := .tup [.str (wayS b), .int k, .int t]) n430
        have e430 := upd_same (H := H_429) (a := p430) (o := .tup [.str (wayS b), .int k, .int t])
        refine (fun (G : ∀ H_430 : Hp, Same H_429 H_430 → H_430 p430 = some (.tup [.str (wayS b), .int k, .int t]) → _) => G _ s430 e430) (fun H_430 s430 e430 => ?_)
        have d430 : p430 ≠ r := (R.same sA).new n430
        have w430 := wo_at (S := [r]) e430 (fun X hX => by rw [List.mem_singleton.mp hX]; exact d430)
        have gi := gi.same (wo_same (S := [r]) s430)
        have gS := gS.same (wo_same (S := [r]) s430)
        have hS := s430 _ _ hS
        have sA := sA.trans s430
        have gi := GIs.app gi (.cons (gi3 w430 gW gK gT) .nil)
        refine ⟨_, rfl, _, rfl, _, rfl, (by show 3 ≤ sizeLine; decide), fun p431 n431 => ?_⟩
        have s431 := same_upd (o := .tup [.int t, .str (wayS b), .int k]) n431
        have e431 := upd_same (H := H_430) (a := p431) (o := .tup [.int t, .str (wayS b), .int k])
        refine (fun (G : ∀ H_431 : Hp, Same H_430 H_431 → H_431 p431 = some (.tup [.int t, .str (wayS b), .int k]) → _) => G _ s431 e431) (fun H_431 s431 e431 => ?_)
        have d431 : p431 ≠ r := (R.same sA).new n431
        have w431 := wo_at (S := [r]) e431 (fun X hX => by rw [List.mem_singleton.mp hX]; exact d431)
        have gi := gi.same (wo_same (S := [r]) s431)
        have gS := gS.same (wo_same (S := [r]) s431)
        have hS := s431 _ _ hS
        have sA := sA.trans s431
        have gi := GIs.app gi (.cons (gi3 w431 gT gW gK) .nil)
        refine ⟨_, rfl, _, rfl, (by show 3 ≤ sizeLine; decide), fun p432 n432 => ?_⟩
        have s432 := same_upd (o := .tup [.int t, .int k, .bl true]) n432
        have e432 := upd_same (H := H_431) (a := p432) (o := .tup [.int t, .int k, .bl true])
        refine (fun (G : ∀ H_432 : Hp, Same H_431 H_432 → H_432 p432 = some (.tup [.int t, .int k, .bl true]) → _) => G _ s432 e432) (fun H_432 s432 e432 => ?_)
        have d432 : p432 ≠ r := (R.same sA).new n432
        have w432 := wo_at (S := [r]) e432 (fun X hX => by rw [List.mem_singleton.mp hX]; exact d432)
        have gi := gi.same (wo_same (S := [r]) s432)
        have gS := gS.same (wo_same (S := [r]) s432)
        have hS := s432 _ _ hS
        have sA := sA.trans s432
        have gi := GIs.app gi (.cons (gi3 (m' := 1) w432 gT gK (pg_bool true)) .nil)
        refine ⟨(by show 5 ≤ sizeLine; decide), fun p433 n433 => ?_⟩
        have s433 := same_upd (o := .lst [.ref p427, .ref p429, .ref p430, .ref p431, .ref p432]) n433
        have e433 := upd_same (H := H_432) (a := p433) (o := .lst [.ref p427, .ref p429, .ref p430, .ref p431, .ref p432])
        refine (fun (G : ∀ H_433 : Hp, Same H_432 H_433 → H_433 p433 = some (.lst [.ref p427, .ref p429, .ref p430, .ref p431, .ref p432]) → _) => G _ s433 e433) (fun H_433 s433 e433 => ?_)
        have d433 : p433 ≠ r := (R.same sA).new n433
        have w433 := wo_at (S := [r]) e433 (fun X hX => by rw [List.mem_singleton.mp hX]; exact d433)
        have gi := gi.same (wo_same (S := [r]) s433)
        have gS := gS.same (wo_same (S := [r]) s433)
        have hS := s433 _ _ hS
        have sA := sA.trans s433
        have sA0 := sA
        refine ⟨p425, p433, _, _, rfl, rfl, hS, e433, (by rw [hxl]; show 37 ≤ sizeLine; decide), fun p434 n434 => ?_⟩
        have s434 := same_upd (o := .lst (xs ++ [.ref p427, .ref p429, .ref p430, .ref p431, .ref p432])) n434
        have e434 := upd_same (H := H_433) (a := p434) (o := .lst (xs ++ [.ref p427, .ref p429, .ref p430, .ref p431, .ref p432]))
        refine (fun (G : ∀ H_434 : Hp, Same H_433 H_434 → H_434 p434 = some (.lst (xs ++ [.ref p427, .ref p429, .ref p430, .ref p431, .ref p432])) → _) => G _ s434 e434) (fun H_434 s434 e434 => ?_)
        have d434 : p434 ≠ r := (R.same sA).new n434
        have w434 := wo_at (S := [r]) e434 (fun X hX => by rw [List.mem_singleton.mp hX]; exact d434)
        have gi := gi.same (wo_same (S := [r]) s434)
        have gS := gS.same (wo_same (S := [r]) s434)
        have hS := s434 _ _ hS
        have sA := sA.trans s434
        exact q _ p434 _ sA (sfree sA0 n434) e434 (GIs.app gS gi) (by rw [List.length_append, hxl]; rfl)
end
end K05

set_option Elab.async false
set_option linter.all false
set_option maxRecDepth 100000
set_option maxHeartbeats 8000000
namespace K05
open PySem PySem.Spec PyProof.Rows L2 Gd Rm
theorem parse_evD {e : Ev} (h : 0 ≤ e.k) : parseR (evD e) = some e := by
  show (if 0 ≤ e.k ∧ isWay (wayS e.d) then some (⟨e.t, e.k, decide (wayS e.d = ("down" : Str))⟩ : Ev) else none) = some e
  rw [if_pos ⟨h, is_way _⟩, way_back]
theorem parse_stD {e : Ev} (h : 0 ≤ e.k) : parseO (stD e) = some ⟨0, e.k, e.d⟩ := by
  show (if 0 ≤ e.k ∧ isWay (wayS e.d) then some (⟨0, e.k, decide (wayS e.d = ("down" : Str))⟩ : Ev) else none) = _
  rw [if_pos ⟨h, is_way _⟩, way_back]
theorem rec_pre : ∀ (r pre : List Ev), Valid (pre ++ r) → recEs (r.map evD) pre = true
  | [], _, _ => rfl
  | e :: r, pre, h => by
    have he : (pre ++ e :: r)[pre.length]? = some e := by rw [List.getElem?_append_right (Nat.le_refl _), Nat.sub_self]; rfl
    obtain ⟨h0, h1, h2⟩ := h pre.length e he
    rw [List.take_append_of_le_length (Nat.le_refl _), List.take_length] at h1
    have hl : lastOk pre.getLast? e = true := by
      cases hg : pre.getLast? with
      | none => rfl
      | some x =>
        rw [List.getLast?_eq_getElem?] at hg
        have hx := (List.getElem?_eq_some_iff.mp hg).1
        exact decide_eq_true (h2 (pre.length - 1) x (by omega) (by rw [List.getElem?_append_left hx]; exact hg))
    have hs : stepR pre (evD e) = some e := by
      unfold stepR
      rw [parse_evD h0]
      show (if (lastOk pre.getLast? e && turnOk pre e) = true then some e else none) = some e
      rw [hl, show turnOk pre e = true from decide_eq_true h1]; rfl
    show recEs (evD e :: r.map evD) pre = true
    rw [rec_go hs]
    exact rec_pre r (pre ++ [e]) (by rw [List.append_assoc]; exact h)
theorem held_kd : ∀ (xs ys : List Ev) (h : Int → Bool), xs.map (fun e => (e.k, e.d)) = ys.map (fun e => (e.k, e.d)) → xs.foldl after h = ys.foldl after h
  | [], [], _, _ => rfl
  | [], _ :: _, _, e => by cases e
  | _ :: _, [], _, e => by cases e
  | x :: xs, y :: ys, h, e => by
    rw [List.map_cons, List.map_cons] at e
    injection e with e1 e2
    have k1 : x.k = y.k := congrArg Prod.fst e1
    have d1 : x.d = y.d := congrArg Prod.snd e1
    have : after h x = after h y := by
      funext k
      show (if k = x.k then x.d else h k) = if k = y.k then y.d else h k
      rw [k1, d1]
    show xs.foldl after (after h x) = ys.foldl after (after h y)
    rw [this]
    exact held_kd xs ys _ e2
theorem ord_pre : ∀ (r pre zs : List Ev), ValidO (pre ++ r) → zs.map (fun e => (e.k, e.d)) = pre.map (fun e => (e.k, e.d)) → ordEs (r.map stD) zs = true
  | [], _, _, _, _ => rfl
  | e :: r, pre, zs, h, hz => by
    have he : (pre ++ e :: r)[pre.length]? = some e := by rw [List.getElem?_append_right (Nat.le_refl _), Nat.sub_self]; rfl
    obtain ⟨h0, h1⟩ := h pre.length e he
    rw [List.take_append_of_le_length (Nat.le_refl _), List.take_length] at h1
    have hh : heldB zs = heldB pre := held_kd zs pre _ hz
    have hs : stepO zs (stD e) = some ⟨0, e.k, e.d⟩ := by
      unfold stepO
      rw [parse_stD h0]
      show (if turnOk zs ⟨0, e.k, e.d⟩ = true then some (⟨0, e.k, e.d⟩ : Ev) else none) = _
      rw [show turnOk zs ⟨0, e.k, e.d⟩ = true from decide_eq_true (by show heldB zs e.k = !e.d; rw [hh]; exact h1)]; rfl
    show ordEs (stD e :: r.map stD) zs = true
    rw [ord_go hs]
    exact ord_pre r (pre ++ [e]) _ (by rw [List.append_assoc]; exact h) (by rw [List.map_append, List.map_append, hz]; rfl)
theorem rec_valid {es : List Ev} (h : Valid es) (hl : es.length ≤ 400) : recOk (recD es) = true := by
  show (decide ((es.map evD).length ≤ 400) && recEs (es.map evD) []) = true
  rw [List.length_map, decide_eq_true hl, rec_pre es [] h]; rfl
theorem ord_valid {es : List Ev} (h : ValidO es) (hl : es.length ≤ 400) : ordOk (ordD es) = true := by
  show (decide ((es.map stD).length ≤ 400) && ordEs (es.map stD) []) = true
  rw [List.length_map, decide_eq_true hl, ord_pre es [] [] h rfl]; rfl
theorem rec_stop : ∀ {ds : List PyData} {es : List Ev} {d : PyData}, d ∈ ds → parseR d = none → recEs ds es = false
  | x :: ds, es, d, hd, hp => by
    rcases List.mem_cons.mp hd with rfl | hd
    · refine rec_bad ?_
      unfold stepR
      rw [hp]; rfl
    · cases hs : stepR es x with
      | none => exact rec_bad hs
      | some e => rw [rec_go hs]; exact rec_stop hd hp
/-- an event as the law draws it -/
structure EvOk (e : Ev) : Prop where
  t : e.t.natAbs ≤ 10 ^ 30
  k0 : 0 ≤ e.k
  k1 : e.k ≤ 10 ^ 33
theorem ig_ev {e : Ev} (h : EvOk e) : IG (evD e) := by
  obtain ⟨h1, h2, h3⟩ := h
  refine ⟨(fit_ev ⟨by omega, by omega⟩).mono (by decide) (by decide), (fit_st (e := e) (by omega)).mono (by decide) (by decide), ?_, ?_⟩
  · show (decide (e.t.natAbs ≤ 10 ^ 60) && decide (e.k < 10 ^ 40)) = true
    rw [decide_eq_true (by omega), decide_eq_true (by omega)]; rfl
  · show decide (e.k < 10 ^ 40) = true
    exact decide_eq_true (by omega)
theorem dq_lst {α : Type} {K : PySem.W.Frag} {f : α → List V} {g : α → List PyData} (hg : ∀ {H : Hp} (x : α), DqAll K H (f x) (g x)) {H : Hp} {as : List Addr} {xs : List α} (h : Tups H f as xs) : DqAll K H (as.map V.ref) (xs.map fun x => .tuple (g x)) := by
  induction xs generalizing as with
  | nil =>
    have : as = [] := List.length_eq_zero_iff.mp (by have := h.1; simpa using this)
    subst this
    exact .nil
  | cons x xs ih =>
    cases as with
    | nil => have := h.1; simp at this
    | cons a as =>
      exact .cons (.tup (SqT.of (h.2 0 a x rfl rfl)) (hg x)) (ih ⟨by have := h.1; simpa using this, fun i b e u v => h.2 (i + 1) b e (by simpa using u) (by simpa using v)⟩)
theorem dq_evs {K : PySem.W.Frag} {H : Hp} {as : List Addr} {es : List Ev} (h : Tups H evV as es) : DqAll K H (as.map V.ref) (es.map evD) := dq_lst (g := fun e : Ev => [.int e.t, .int e.k, .str (wayS e.d)]) (fun e => .cons (.int _) (.cons (.int _) (.cons (.str _) .nil))) h
theorem lay_ev : ∀ es : List Ev, PyData.canLayAll0 (es.map evD) = true ∧ PyData.depthAll (es.map evD) ≤ 1
  | [] => ⟨rfl, by decide⟩
  | e :: es => by
    obtain ⟨a, b⟩ := lay_ev es
    have h1 : PyData.canLay0 (evD e) = true := by
      show (true && (true && (PyData.strOk (wayS e.d) && true))) = true
      cases e.d <;> decide +kernel
    refine ⟨?_, ?_⟩
    · show (PyData.canLay0 (evD e) && PyData.canLayAll0 (es.map evD)) = true
      rw [h1, a]; rfl
    · show max (PyData.depth (evD e)) (PyData.depthAll (es.map evD)) ≤ 1
      have : PyData.depth (evD e) = 1 := rfl
      omega
theorem shaped_rec (es : List Ev) : SeqAt.shaped (recD es) = true := by
  obtain ⟨a, b⟩ := lay_ev es
  show (PyData.canLayAll0 (es.map evD) && decide (PyData.depthAll (es.map evD) + 1 ≤ 64)) = true
  rw [a, decide_eq_true (by omega)]; rfl
theorem tail_evs (es : List Ev) : (es.map evD).map tailD = es.map stD := by rw [List.map_map]; rfl
theorem way_mod (n : Nat) : ∃ b : Bool, b = decide (n % 2 = 0) ∧ atI [V.str ("down" : String), V.str ("up" : String)] ((n : Int) % 2) = some (.str (wayS b)) := by
  have h : n % 2 = 0 ∨ n % 2 = 1 := by omega
  rcases h with h | h
  · refine ⟨true, by rw [h]; rfl, ?_⟩
    rw [show (n : Int) % 2 = 0 by omega]; decide +kernel
  · refine ⟨false, by rw [h]; rfl, ?_⟩
    rw [show (n : Int) % 2 = 1 by omega]; decide +kernel
theorem cutT {xs : List V} {k : Nat} : cutV xs none (some (k : Int)) = xs.take k := by
  unfold cutV
  rw [HT.sIx_none, HT.sIx_nat, List.drop_zero, Nat.sub_zero]
  rcases Nat.le_total k xs.length with h | h
  · rw [Nat.min_eq_left h]
  · rw [Nat.min_eq_right h, List.take_of_length_le (Nat.le_refl _), List.take_of_length_le h]
section
variable {P : Program} {w : World} {K : PySem.W.Frag} {mg : Str → Option Value} {base : Heap}
def spNext : Sp := fun vs H Q _ => ∃ (c : Addr) (es : List Ev) (at_ : Nat) (k : Int), vs = [.ref c, .int (at_ : Int), .int k] ∧ Lst evV H c es ∧ (∀ e ∈ es, EvOk e) ∧ at_ ≤ es.length ∧ es.length ≤ 300 ∧
  ∀ H' p t b, Same H H' → H' p = some (.tup [.int t, .int k, .str (wayS b)]) → t.natAbs ≤ 10 ^ 30 → Q (.ref p) H'
theorem ok__law_next_event (bt : Bt mg) (a : At K mg "_law_next_event" s__law_next_event ["_law_record_here", "_law_at", "_law_key"]) : Cl P w K mg base 1 "_law_next_event" spNext := by
  refine clG a sc__law_next_event (fun vs H Q E h => ?_) (fun f cdv A outer s H vs Q hg hr h => ?_)
  · obtain ⟨c, es, at_, k, rfl, _⟩ := h
    rfl
  · obtain ⟨c, es, n, k, rfl, hL, hE, hat, hl3, q⟩ := h
    refine ⟨_, (C8.pss_cut (ps_set (i := 3) sc__law_next_event.nd rfl (Or.inl rfl) (pe_ifExp (pt_cmpR op_gt (pv 1) pe_int (nomark _)) (pe_ix ix_tup (pe_ix ix_list (pv 0) (pe_op op_sub (pv 1) pe_int) (fun _ _ => rfl)) pe_int (fun _ _ => rfl)) (pe_ifExp (pt_cmpR (op_neD hr.units) (pv 0) (pe_lst pa_nil) (nomark _)) (pe_ix ix_tup (pe_ix ix_list (pv 0) pe_int (fun _ _ => rfl)) pe_int (fun _ _ => rfl)) pe_int)))
      (pss_cons (ps_set (i := 4) sc__law_next_event.nd rfl (Or.inl rfl) (pe_callB call_len_seq (by rfl) bt.m_len (by decide +kernel) (pa_cons (pe_lc (own := [("_law_event", 5)]) (g := (gName 5)) (by rfl) sc__law_next_event.nd (pi_list (pe_slice sl_list (pv 0) po_none (po_some (pv 1)))) (blkOk_by (N := n__law_next_event) (sc := defScope s__law_next_event) (by decide +kernel)) (fun _ _ _ _ _ => (pg_name (i := 5) sc__law_next_event.nd rfl (Or.inl rfl))) (fun _ _ _ _ _ => (pts_one (pt_cmpR op_eq (pe_ix (r := rIxT K) ix_tup (pv 5) pe_int (fun _ _ => rfl)) (pv 2) (nomark _)))) (fun _ _ _ _ _ => pe_int)) pa_nil)))
      (pss_one (ps_ret (pe_tup (pa_cons (pv 3) (pa_cons (pv 2) (pa_cons (pe_ix ix_list (pe_lst (pa_cons pe_str (pa_cons pe_str pa_nil))) (pe_op op_mod (pv 4) pe_int) (fun _ _ => rfl)) pa_nil)))))))), ?_⟩
    obtain ⟨as, hc, hT⟩ := id hL
    have hal := hT.1
    have back : ∀ j, j < es.length → ∃ b, (as.map V.ref)[j]? = some (.ref b) ∧ H b = some (.tup (evV (es.getD j ⟨0, 0, true⟩))) := fun j hj => by
      obtain ⟨b, hb, hbt⟩ := hT.at_ hj
      refine ⟨b, by rw [List.getElem?_map, hb]; rfl, ?_⟩
      rw [List.getD_eq_getElem?_getD, List.getElem?_eq_getElem hj]; exact hbt
    have bnd : ∀ j, j < es.length → (es.getD j ⟨0, 0, true⟩).t.natAbs ≤ 10 ^ 30 := fun j hj => by
      rw [List.getD_eq_getElem?_getD, List.getElem?_eq_getElem hj]; exact (hE _ (List.getElem_mem hj)).t
    have emp : PyData.eqv (recD es) (.list []) = es.isEmpty := by
      rw [show PyData.eqv (recD es) (.list []) = (es.map evD).isEmpty from eqv_nil _]; cases es <;> rfl
    refine ⟨fun σ H1 => ∃ t : Int, σ = [some (.ref c), some (.int (n : Int)), some (.int k), some (.int t), none, none] ∧ Same H H1 ∧ t.natAbs ≤ 10 ^ 30, ?_, ?_⟩
    · rcases Nat.eq_zero_or_pos n with z | z
      · refine ⟨_, rfl, _, _, rfl, rfl, false, congrArg V.bl (decide_eq_false (by omega)), iteF ⟨_, rfl, Nat.zero_le _, fun U nU => ⟨recD es, .list [], (hL.same (same_upd nU)).dp, .lst (SqL.of upd_same) .nil, shaped_rec es, rfl, ?_⟩⟩⟩
        rcases Nat.eq_zero_or_pos es.length with y | y
        · exact ⟨false, congrArg V.bl (by rw [emp, List.length_eq_zero_iff.mp y]; rfl), iteF ⟨0, rfl, same_upd nU, by decide⟩⟩
        · obtain ⟨b, hb1, hb2⟩ := back 0 y
          exact ⟨true, congrArg V.bl (by rw [emp]; cases es with | nil => exact absurd y (Nat.lt_irrefl 0) | cons => rfl), iteT ⟨_, rfl, c, _, 0, .ref b, rfl, rfl, SqL.of (same_upd nU _ _ hc), atI_nat (j := 0) hb1, b, _, 0, .int (es.getD 0 ⟨0, 0, true⟩).t, rfl, rfl, SqT.of (same_upd nU _ _ hb2), atI_nat (j := 0) rfl, _, rfl, same_upd nU, bnd 0 y⟩⟩
      · obtain ⟨b, hb1, hb2⟩ := back (n - 1) (by omega)
        exact ⟨_, rfl, _, _, rfl, rfl, true, congrArg V.bl (decide_eq_true (by omega)), iteT ⟨_, rfl, _, rfl, _, _, rfl, rfl, c, _, _, .ref b, rfl, rfl, SqL.of hc, at_of (j := n - 1) (by omega) hb1, b, _, 0, .int (es.getD (n - 1) ⟨0, 0, true⟩).t, rfl, rfl, SqT.of hb2, atI_nat (j := 0) rfl, _, rfl, Same.refl _, bnd (n - 1) (by omega)⟩⟩
    rintro σ H1 ⟨t, rfl, s1, bt1⟩
    have hc1 := s1 _ _ hc
    refine ⟨_, rfl, _, rfl, (n : Int), rfl, c, _, rfl, SqL.of hc1, fun p np => ?_⟩
    have sp := same_upd (o := .lst (cutV (as.map V.ref) none (some (n : Int)))) np
    have hp := upd_same (H := H1) (a := p) (o := .lst (cutV (as.map V.ref) none (some (n : Int))))
    refine (fun (G : ∀ H2 : Hp, Same H1 H2 → H2 p = some (.lst (cutV (as.map V.ref) none (some (n : Int)))) → _) => G _ sp hp) (fun H2 sp hp => ?_)
    rw [cutT] at hp
    have s2 := s1.trans sp
    refine ⟨p, rfl, ⟨_, SqL.of hp⟩, fun M nM => lc_it (walk_list (xs := (as.map V.ref).take n)) (fun i H' => Same H2 H' ∧ ∃ m : Nat, H' M = some (.lst (List.replicate m (V.int 1))) ∧ m ≤ i) ⟨same_upd nM, 0, upd_same, Nat.le_refl _⟩ (fun i H' _ p => SqL.of (p.1 _ _ hp)) (fun i x H3 H4 hi p y => ?_) (fun H3 p => ?_)⟩
    · obtain ⟨s3, m, hM, hm⟩ := p
      obtain ⟨rfl, hx⟩ := y
      rw [List.length_take, List.length_map] at hi
      have hi' : i < es.length := by omega
      obtain ⟨b, hb, hbt⟩ := back i hi'
      have e2 : x = .ref b := by
        rw [List.getElem?_take_of_lt (by omega), hb] at hx
        exact (Option.some.inj hx).symm
      subst e2
      refine ⟨rfl, _, rfl, b, _, 1, .int (es.getD i ⟨0, 0, true⟩).k, rfl, rfl, SqT.of ((s2.trans s3) _ _ hbt), atI_nat (j := 1) rfl, _, rfl, rfl, _, rfl, ite2 (fun z => ?_) (fun z => ?_)⟩
      · refine ⟨_, hM, by rw [List.length_replicate]; exact small1000 (by omega), Same.off s3 nM off_upd, m + 1, ?_, by omega⟩
        rw [upd_same, List.replicate_succ']
      · exact ⟨s3, m, hM, by omega⟩
    · obtain ⟨s3, m, hM, hm⟩ := p
      refine ⟨M, _, rfl, .inl (SqL.of hM), ?_⟩
      rw [List.length_replicate]
      obtain ⟨b, _, hb⟩ := way_mod m
      refine ⟨_, rfl, _, rfl, (by show 2 ≤ sizeLine; decide), fun W nW => ?_⟩
      have sW := same_upd (o := .lst [.str ("down" : String), .str ("up" : String)]) nW
      have hW := upd_same (H := H3) (a := W) (o := .lst [.str ("down" : String), .str ("up" : String)])
      refine (fun (G : ∀ H4 : Hp, Same H3 H4 → H4 W = some (.lst [.str ("down" : String), .str ("up" : String)]) → _) => G _ sW hW) (fun H4 sW hW => ?_)
      refine ⟨_, rfl, _, _, rfl, rfl, (show (0 : Int) < 2 by decide), W, _, _, .str (wayS b), rfl, rfl, SqL.of hW, hb, (by show 3 ≤ sizeLine; decide), fun T nT => ?_⟩
      exact q _ T t b (((s2.trans s3).trans sW).trans (same_upd nT)) upd_same bt1
end
end K05

set_option Elab.async false
set_option linter.all false
set_option maxRecDepth 100000
set_option maxHeartbeats 8000000
namespace K05
open PySem PySem.Spec PyProof.Rows L2 Gd Rm
def tapE (i : Nat) : Ev := ⟨5, 3, decide (i % 2 = 0)⟩
def taps (n : Nat) : List Ev := (List.range n).map tapE
theorem taps_len (n : Nat) : (taps n).length = n := by unfold taps; rw [List.length_map, List.length_range]
theorem taps_snoc (n : Nat) : taps (n + 1) = taps n ++ [tapE n] := by unfold taps; rw [List.range_succ, List.map_append]; rfl
theorem taps_held : ∀ n, heldB (taps n) 3 = !decide (n % 2 = 0)
  | 0 => rfl
  | n + 1 => by
    rw [taps_snoc, heldB_snoc]
    show (if (3 : Int) = 3 then decide (n % 2 = 0) else _) = _
    rw [if_pos rfl]
    have h : n % 2 = 0 ∨ n % 2 = 1 := by omega
    rcases h with h | h
    · rw [decide_eq_true h, decide_eq_false (by omega)]; rfl
    · rw [decide_eq_false (by omega), decide_eq_true (by omega)]; rfl
theorem taps_valid : ∀ n, Valid (taps n)
  | 0 => Valid.nil
  | n + 1 => by
    rw [taps_snoc]
    refine (taps_valid n).snoc (show (0 : Int) ≤ 3 by decide) (taps_held n) fun e he => ?_
    unfold taps at he
    obtain ⟨i, _, rfl⟩ := List.mem_map.mp he
    exact Int.le_refl 5
theorem eqv_b2 (a b c d : Bool) : PyData.eqv (.list [.bool a, .bool b]) (.list [.bool c, .bool d]) = (decide (a = c) && decide (b = d)) := by cases a <;> cases b <;> cases c <;> cases d <;> decide +kernel
theorem shaped_b2 (a b : Bool) : SeqAt.shaped (.list [.bool a, .bool b]) = true := by cases a <;> cases b <;> decide +kernel
theorem taps_rec (n : Nat) : recOk (recD (taps n)) = decide (n ≤ 400) := by
  by_cases h : n ≤ 400
  · rw [decide_eq_true h]
    exact rec_valid (taps_valid n) (by rw [taps_len]; exact h)
  · show (decide (((taps n).map evD).length ≤ 400) && recEs ((taps n).map evD) []) = _
    rw [List.length_map, taps_len, decide_eq_false h]; rfl
theorem taps_ord (n : Nat) : ordOk (ordD (taps n)) = decide (n ≤ 400) := by
  by_cases h : n ≤ 400
  · rw [decide_eq_true h]
    exact ord_valid (taps_valid n).o (by rw [taps_len]; exact h)
  · show (decide (((taps n).map stD).length ≤ 400) && ordEs ((taps n).map stD) []) = _
    rw [List.length_map, taps_len, decide_eq_false h]; rfl
theorem parse_bad {t k : Int} : parseR (.tuple [.int t, .int k, .str ("Down" : String)]) = none := by
  show (if 0 ≤ k ∧ isWay ("Down" : Str) then some (⟨t, k, decide (("Down" : Str) = ("down" : Str))⟩ : Ev) else none) = none
  exact if_neg fun z => absurd z.2 (by decide +kernel)
theorem tups_rev {α : Type} {f : α → List V} {H : Hp} {as : List Addr} {es : List α} (h : Tups H f as es) : Tups H f as.reverse es.reverse := by
  refine ⟨by rw [List.length_reverse, List.length_reverse]; exact h.1, fun i a e x y => ?_⟩
  have hi := (List.getElem?_eq_some_iff.mp x).1
  rw [List.length_reverse] at hi
  have hl := h.1
  rw [List.getElem?_reverse hi] at x
  rw [List.getElem?_reverse (by omega)] at y
  exact h.2 (as.length - 1 - i) a e x (by rw [hl]; exact y)
theorem eqv_tft : PyData.eqv (.list [.bool true, .bool false, .bool true]) (.list [.bool true, .bool false, .bool true]) = true := by decide +kernel
theorem sh_tft : SeqAt.shaped (.list [.bool true, .bool false, .bool true]) = true := by decide +kernel
section
variable {P : Program} {w : World} {K : PySem.W.Frag} {mg : Str → Option Value} {base : Heap}
def spSizes : Sp := fun vs H Q _ => vs = [] ∧ ∀ H', Same H H' → Q (.bl true) H'
theorem ok__law_sizes_right (bt : Bt mg) (a : At K mg "_law_sizes_right" s__law_sizes_right []) (c__law_steps : Cl P w K mg base 1 "_law_steps" (spSteps K))
    (c_is_record : Cl P w K mg base 5 "is_record" (spIsR K)) (c_is_order : Cl P w K mg base 4 "is_order" (spIsO K)) : Cl P w K mg base 6 "_law_sizes_right" spSizes := by
  refine clG a sc__law_sizes_right (fun vs H Q E h => ?_) (fun f cdv A outer s H vs Q hg hr h => ?_)
  · obtain ⟨rfl, _⟩ := h
    rfl
  · obtain ⟨rfl, q⟩ := h
    refine ⟨_, (pss_cons (ps_for PassesOwn.never rfl (pi_list (pe_lst (pa_cons pe_int (pa_cons pe_int (pa_cons pe_int (pa_cons pe_int (pa_cons pe_int pa_nil))))))) (pg_name (i := 0) sc__law_sizes_right.nd rfl (Or.inl rfl)) (pss_cons (ps_setLc (i := 1) (own := [("_law_number", 3)]) (g := (gName 3)) (by rfl) sc__law_sizes_right.nd rfl rfl (sw_true rfl rfl rfl (by decide +kernel)) (pi_range1 (by rfl) bt.m_range (pa_cons (pv 0) pa_nil)) (blkOk_by (N := n__law_sizes_right) (sc := defScope s__law_sizes_right) (by decide +kernel)) (fun _ _ _ _ _ => (pg_name (i := 3) sc__law_sizes_right.nd rfl (Or.inl rfl))) (fun _ _ _ _ _ => pts_nil) (fun _ _ _ _ _ => (pe_tup (pa_cons pe_int (pa_cons pe_int (pa_cons (pe_ix (r := rIxL K) ix_list (pe_lst (pa_cons pe_str (pa_cons pe_str pa_nil))) (pe_op op_mod (pv 3) pe_int) (fun _ _ => rfl)) pa_nil))))))
      (pss_cons (ps_set (i := 2) sc__law_sizes_right.nd rfl (Or.inl rfl) (pe_lst (pa_cons (pe_cl c_is_record hg hr (by decide) (by rfl) (pa_cons (pv 1) pa_nil)) (pa_cons (pe_cl c_is_order hg hr (by decide) (by rfl) (pa_cons (pe_cl c__law_steps hg hr (by decide) (by rfl) (pa_cons (pv 1) pa_nil)) pa_nil)) pa_nil))))
      (pss_one (ps_if (pt_cmpR (op_neD hr.units) (pv 2) (pe_lst (pa_cons (pe_cmpR op_lt (pv 0) pe_int (nomark _)) (pa_cons (pe_cmpR op_lt (pv 0) pe_int (nomark _)) pa_nil))) (nomark _)) (pss_one (ps_ret pe_bl)) pss_nil)))))
      (pss_one (ps_ret pe_bl))), ?_⟩
    refine ⟨(by show 5 ≤ sizeLine; decide), fun p np => ?_⟩
    have sp := same_upd (o := .lst [.int 0, .int 399, .int 400, .int 401, .int 402]) np
    have hp : upd H p (.lst [.int 0, .int 399, .int 400, .int 401, .int 402]) p = some (.lst (([0, 399, 400, 401, 402] : List Nat).map fun n : Nat => V.int (n : Int))) := upd_same
    refine (fun (G : ∀ H1 : Hp, Same H H1 → H1 p = some (.lst (([0, 399, 400, 401, 402] : List Nat).map fun n : Nat => V.int (n : Int))) → _) => G _ sp hp) (fun H1 sp hp => ?_)
    refine ⟨p, rfl, ⟨_, SqL.of hp⟩, for_it (walk_list (xs := ([0, 399, 400, 401, 402] : List Nat).map fun n : Nat => V.int (n : Int))) (fun i σ H' => Same H1 H' ∧ ∃ y0 y1 y2 y3, σ = [y0, y1, y2, y3]) ⟨Same.refl _, _, _, _, _, rfl⟩ (fun i σ H' _ p => SqL.of (p.1 _ _ hp)) (fun i x σ H2 H3 hi p y => ?_) (fun σ H2 p => ?_)⟩
    · obtain ⟨s2, y0, y1, y2, y3, rfl⟩ := p
      obtain ⟨rfl, hx⟩ := y
      obtain ⟨n, hn, rfl⟩ : ∃ n : Nat, n ≤ 402 ∧ V.int (n : Int) = x := by
        rw [List.getElem?_map] at hx
        cases hg : ([0, 399, 400, 401, 402] : List Nat)[i]? with
        | none => rw [hg] at hx; cases hx
        | some n =>
          rw [hg] at hx
          have hm := List.mem_of_getElem? hg
          simp only [List.mem_cons, List.mem_nil_iff, or_false] at hm
          exact ⟨n, by omega, Option.some.inj hx⟩
      refine ⟨_, rfl, (n : Int), rfl, by omega, by omega, ?_⟩
      rw [Int.toNat_natCast]
      refine fun M nM => lc_it walk_range (fun j H' => Same H3 H' ∧ Lst evV H' M (taps j)) ⟨same_upd nM, [], upd_same, Tups.nil⟩ (fun _ _ _ _ => True.intro) (fun j x H4 H5 hj p y => ?_) (fun H4 p => ?_)
      · obtain ⟨s4, as, hM, hT⟩ := p
        obtain ⟨rfl, rfl⟩ := y
        have hal := hT.1
        rw [taps_len] at hal
        refine ⟨rfl, (by show 2 ≤ sizeLine; decide), fun W nW => ?_⟩
        have sW := same_upd (o := .lst [.str ("down" : String), .str ("up" : String)]) nW
        have hW := upd_same (H := H5) (a := W) (o := .lst [.str ("down" : String), .str ("up" : String)])
        refine (fun (G : ∀ H6 : Hp, Same H5 H6 → H6 W = some (.lst [.str ("down" : String), .str ("up" : String)]) → _) => G _ sW hW) (fun H6 sW hW => ?_)
        obtain ⟨b, eb, hb⟩ := way_mod j
        refine ⟨_, rfl, _, _, rfl, rfl, (show (0 : Int) < 2 by decide), W, _, _, .str (wayS b), rfl, rfl, SqL.of hW, by rw [Int.zero_add]; exact hb, (by show 3 ≤ sizeLine; decide), fun T nT => ?_⟩
        have sT := same_upd (o := .tup [.int 5, .int 3, .str (wayS b)]) nT
        have s6 := sW.trans sT
        refine ⟨_, s6 _ _ hM, by rw [List.length_map]; exact small1000 (by omega), Same.off (s4.trans s6) nM off_upd, ?_⟩
        rw [taps_snoc]
        refine ⟨as ++ [T], by rw [upd_same, List.map_append]; rfl, ?_⟩
        have t1 := (hT.same s6).snoc (a := T) (e := tapE j) (by rw [upd_same]; show some _ = some (HO.tup [.int 5, .int 3, .str (wayS (decide (j % 2 = 0)))]); rw [eb])
        exact t1.off (s6 _ _ hM) off_upd
      · obtain ⟨s4, hL⟩ := p
        obtain ⟨as, hM, hT⟩ := id hL
        have hDr : ∀ H', Same H4 H' → Dq K H' (.ref M) (recD (taps n)) := fun H' s => Gd.Dp.q (hL.same s).dp
        refine ⟨_, rfl, .ref M, recD (taps n), rfl, hDr _ (Same.refl _), fun H5 s5 => ?_⟩
        refine ⟨_, rfl, M, _, _, rfl, SqL.of (s5 _ _ hM), dq_evs (hT.same s5), by rw [List.length_map, taps_len]; omega, fun H6 q6 ys s6 nq hq hDy => ?_⟩
        rw [tail_evs] at hDy
        refine ⟨.ref q6, ordD (taps n), rfl, .lst (SqL.of hq) hDy, fun H7 s7 => ?_⟩
        rw [taps_rec, taps_ord]
        refine ⟨(by show 2 ≤ sizeLine; decide), fun D nD => ?_⟩
        have sD := same_upd (o := .lst [.bl (decide (n ≤ 400)), .bl (decide (n ≤ 400))]) nD
        have hD := upd_same (H := H7) (a := D) (o := .lst [.bl (decide (n ≤ 400)), .bl (decide (n ≤ 400))])
        refine (fun (G : ∀ H8 : Hp, Same H7 H8 → H8 D = some (.lst [.bl (decide (n ≤ 400)), .bl (decide (n ≤ 400))]) → _) => G _ sD hD) (fun H8 sD hD => ?_)
        refine ⟨_, rfl, _, rfl, _, _, rfl, rfl, _, rfl, _, _, rfl, rfl, (by show 2 ≤ sizeLine; decide), fun L nL => ?_⟩
        have e4 : decide ((n : Int) < 401) = decide (n ≤ 400) := decide_eq_decide.mpr (by omega)
        dsimp only
        rw [e4]
        have sL := same_upd (o := .lst [.bl (decide (n ≤ 400)), .bl (decide (n ≤ 400))]) nL
        refine ⟨.list [.bool (decide (n ≤ 400)), .bool (decide (n ≤ 400))], .list [.bool (decide (n ≤ 400)), .bool (decide (n ≤ 400))], .lst (SqL.of (sL _ _ hD)) (.cons (.bl _) (.cons (.bl _) .nil)), .lst (SqL.of upd_same) (.cons (.bl _) (.cons (.bl _) .nil)), shaped_b2 _ _, shaped_b2 _ _, false, congrArg V.bl (by rw [eqv_b2]; simp), iteF ?_⟩
        exact ⟨s2.trans (((((s4.trans s5).trans s6).trans s7).trans sD).trans sL), _, _, _, _, rfl⟩
    · obtain ⟨s2, y0, y1, y2, y3, rfl⟩ := p
      exact q _ (sp.trans s2)
def spChanged : Sp := fun vs H Q _ => ∃ (c : Addr) (es : List Ev), vs = [.ref c] ∧ Lst evV H c es ∧ Valid es ∧ (∀ e ∈ es, EvOk e) ∧ es.length ≤ 300 ∧ ∀ H', Rm.Off c H H' → Q (.bl true) H'
theorem ok__law_changed_right (bt : Bt mg) (a : At K mg "_law_changed_right" s__law_changed_right ["_law_record_here"]) (c_is_record : Cl P w K mg base 5 "is_record" (spIsR K)) (c__law_told_right : Cl P w K mg base 6 "_law_told_right" (spTold K)) : Cl P w K mg base 7 "_law_changed_right" spChanged := by
  refine clG a sc__law_changed_right (fun vs H Q E h => ?_) (fun f cdv A outer s H vs Q hg hr h => ?_)
  · obtain ⟨c, es, rfl, _⟩ := h
    rfl
  · obtain ⟨c, es, rfl, hL, hV, hE, hl3, q⟩ := h
    refine ⟨_, (pss_cons (ps_set (i := 1) sc__law_changed_right.nd rfl (Or.inl rfl) (pe_lst (pa_cons (pe_cl c_is_record hg hr (by decide) (by rfl) (pa_cons (pv 0) pa_nil)) pa_nil)))
      (pss_cons (ps_expr (pe_bm PySem.F.plainAttrs_list PySem.F.slot_list_append PySem.F.type_list_append mt_append (pv 0) (pa_cons (pe_tup (pa_cons (pe_op op_add (pe_op op_powW pe_int pe_int) (pe_op op_powW pe_int pe_int)) (pa_cons pe_int (pa_cons pe_str pa_nil)))) pa_nil)))
      (pss_cons (ps_expr (pe_bm PySem.F.plainAttrs_list PySem.F.slot_list_append PySem.F.type_list_append mt_append (pv 1) (pa_cons (pe_cl c_is_record hg hr (by decide) (by rfl) (pa_cons (pv 0) pa_nil)) pa_nil)))
      (pss_cons (ps_expr (pe_bm0 PySem.F.plainAttrs_list PySem.F.slot_list_pop PySem.F.type_list_pop mt_pop (pv 0)))
      (pss_cons (ps_expr (pe_bm PySem.F.plainAttrs_list PySem.F.slot_list_append PySem.F.type_list_append mt_append (pv 1) (pa_cons (pe_cl c_is_record hg hr (by decide) (by rfl) (pa_cons (pv 0) pa_nil)) pa_nil)))
      (pss_cons (ps_expr (pe_bm0 PySem.F.plainAttrs_list PySem.F.slot_list_reverse PySem.F.type_list_reverse mt_reverse (pv 0)))
      (pss_one (ps_ret (pe_and (pe_cmpR (op_eqD hr.units) (pv 1) (pe_lst (pa_cons pe_bl (pa_cons pe_bl (pa_cons pe_bl pa_nil)))) (nomark _)) (pe_one (pe_cl c__law_told_right hg hr (by decide) (by rfl) (pa_cons (pv 0) pa_nil)))))))))))), ?_⟩
    obtain ⟨as, hc, hT⟩ := id hL
    have hal := hT.1
    have rok : recOk (recD es) = true := rec_valid hV (by omega)
    refine ⟨_, rfl, .ref c, recD es, rfl, Gd.Dp.q hL.dp, fun H1 s1 => ⟨(by show 1 ≤ sizeLine; decide), fun D nD => ?_⟩⟩
    rw [rok]
    have sD := same_upd (o := .lst [.bl true]) nD
    have hD := upd_same (H := H1) (a := D) (o := .lst [.bl true])
    refine (fun (G : ∀ H2 : Hp, Same H1 H2 → H2 D = some (.lst [.bl true]) → _) => G _ sD hD) (fun H2 sD hD => ?_)
    have s2 := s1.trans sD
    have hc2 := s2 _ _ hc
    have nDH : H D = none := sfree s1 nD
    have Dc : D ≠ c := (ne_of_none hc nDH).symm
    refine ⟨_, rfl, .inl ⟨rfl, _, SqL.of hc2⟩, _, _, rfl, rfl, powW (n := 40) (k := 15) (by decide) (by decide), _, _, rfl, rfl, powW (n := 40) (k := 12) (by decide) (by decide), _, _, rfl, rfl, (by show 3 ≤ sizeLine; decide), fun T nT => ?_⟩
    have sT := same_upd (o := .tup [.int (10 ^ Int.toNat 15 + 10 ^ Int.toNat 12), .int 5, .str ("Down" : String)]) nT
    have hT3 := upd_same (H := H2) (a := T) (o := .tup [.int (10 ^ Int.toNat 15 + 10 ^ Int.toNat 12), .int 5, .str ("Down" : String)])
    refine (fun (G : ∀ H3 : Hp, Same H2 H3 → H3 T = some (.tup [.int (10 ^ Int.toNat 15 + 10 ^ Int.toNat 12), .int 5, .str ("Down" : String)]) → _) => G _ sT hT3) (fun H3 sT hT3 => ?_)
    have hc3 := sT _ _ hc2
    have hD3 := sT _ _ hD
    refine ⟨c, _, _, rfl, rfl, hc3, by rw [List.length_map]; exact small1000 (by omega), ?_⟩
    have o4 : Rm.Off c H (upd H3 c (.lst (as.map V.ref ++ [.ref T]))) := (Off.of (s2.trans sT)).trans off_upd
    have hc4 := upd_same (H := H3) (a := c) (o := .lst (as.map V.ref ++ [.ref T]))
    have hD4 : upd H3 c (.lst (as.map V.ref ++ [.ref T])) D = some (.lst [.bl true]) := by rw [upd_ne Dc]; exact hD3
    have hT4 : upd H3 c (.lst (as.map V.ref ++ [.ref T])) T = some (.tup [.int (10 ^ Int.toNat 15 + 10 ^ Int.toNat 12), .int 5, .str ("Down" : String)]) := by rw [upd_ne (ne_of hT3 hc3 (by intro z; cases z))]; exact hT3
    have tT4 : Tups (upd H3 c (.lst (as.map V.ref ++ [.ref T]))) evV as es := (hT.same (s2.trans sT)).off hc3 off_upd
    refine (fun (G : ∀ H4 : Hp, Rm.Off c H H4 → H4 c = some (.lst (as.map V.ref ++ [.ref T])) → H4 D = some (.lst [.bl true]) → H4 T = some (.tup [.int (10 ^ Int.toNat 15 + 10 ^ Int.toNat 12), .int 5, .str ("Down" : String)]) → Tups H4 evV as es → _) => G _ o4 hc4 hD4 hT4 tT4) (fun H4 o4 hc4 hD4 hT4 tT4 => ?_)
    have bad : recOk (.list (es.map evD ++ [.tuple [.int (10 ^ Int.toNat 15 + 10 ^ Int.toNat 12), .int 5, .str ("Down" : String)]])) = false := by
      show (decide (_ ≤ 400) && recEs (es.map evD ++ [.tuple [.int (10 ^ Int.toNat 15 + 10 ^ Int.toNat 12), .int 5, .str ("Down" : String)]]) []) = false
      rw [rec_stop (d := .tuple [.int (10 ^ Int.toNat 15 + 10 ^ Int.toNat 12), .int 5, .str ("Down" : String)]) (List.mem_append.mpr (.inr (List.mem_singleton.mpr rfl))) parse_bad, Bool.and_false]
    refine ⟨_, rfl, .inl ⟨rfl, _, SqL.of hD4⟩, _, rfl, .ref c, _, rfl, .lst (SqL.of hc4) (DqAll.append (dq_evs tT4) (.cons (.tup (SqT.of hT4) (.cons (.int _) (.cons (.int _) (.cons (.str _) .nil)))) .nil)), fun H5 s5 => ?_⟩
    rw [bad]
    refine ⟨D, _, _, rfl, rfl, s5 _ _ hD4, (by show 1 < sizeLine; decide), ?_⟩
    have hc5 := s5 _ _ hc4
    have hD5 := s5 _ _ hD4
    -- pop
    have hc6 : upd H5 D (.lst [.bl true, .bl false]) c = some (.lst (as.map V.ref ++ [.ref T])) := by rw [upd_ne Dc.symm]; exact hc5
    have hD6 := upd_same (H := H5) (a := D) (o := .lst [.bl true, .bl false])
    have tT6 : Tups (upd H5 D (.lst [.bl true, .bl false])) evV as es := (tT4.same s5).off hD5 off_upd
    have o6 : Rm.Off c H (upd H5 D (.lst [.bl true, .bl false])) := fun b o h n => by rw [upd_ne (ne_of_none h nDH)]; exact s5 _ _ (o4 b o h n)
    refine (fun (G : ∀ H6 : Hp, Rm.Off c H H6 → H6 c = some (.lst (as.map V.ref ++ [.ref T])) → H6 D = some (.lst [.bl true, .bl false]) → Tups H6 evV as es → _) => G _ o6 hc6 hD6 tT6) (fun H6 o6 hc6 hD6 tT6 => ?_)
    refine ⟨_, rfl, .inl ⟨rfl, _, SqL.of hc6⟩, c, _, .ref T, rfl, rfl, hc6, by rw [List.length_append, List.getElem?_append_right (by show _ ≤ _ + 1 - 1; omega)]; simp, ?_⟩
    rw [List.dropLast_concat]
    have hc7 := upd_same (H := H6) (a := c) (o := .lst (as.map V.ref))
    have hD7 : upd H6 c (.lst (as.map V.ref)) D = some (.lst [.bl true, .bl false]) := by rw [upd_ne Dc]; exact hD6
    have tT7 : Tups (upd H6 c (.lst (as.map V.ref))) evV as es := tT6.off hc6 off_upd
    have o7 : Rm.Off c H (upd H6 c (.lst (as.map V.ref))) := o6.trans off_upd
    refine (fun (G : ∀ H7 : Hp, Rm.Off c H H7 → H7 c = some (.lst (as.map V.ref)) → H7 D = some (.lst [.bl true, .bl false]) → Tups H7 evV as es → _) => G _ o7 hc7 hD7 tT7) (fun H7 o7 hc7 hD7 tT7 => ?_)
    have L7 : Lst evV H7 c es := ⟨as, hc7, tT7⟩
    refine ⟨_, rfl, .inl ⟨rfl, _, SqL.of hD7⟩, _, rfl, .ref c, recD es, rfl, Gd.Dp.q L7.dp, fun H8 s8 => ?_⟩
    rw [rok]
    have hD8 := s8 _ _ hD7
    have hc8 := s8 _ _ hc7
    refine ⟨D, _, _, rfl, rfl, hD8, (by show 2 < sizeLine; decide), ?_⟩
    have hc9 : upd H8 D (.lst [.bl true, .bl false, .bl true]) c = some (.lst (as.map V.ref)) := by rw [upd_ne Dc.symm]; exact hc8
    have hD9 := upd_same (H := H8) (a := D) (o := .lst [.bl true, .bl false, .bl true])
    have tT9 : Tups (upd H8 D (.lst [.bl true, .bl false, .bl true])) evV as es := (tT7.same s8).off hD8 off_upd
    have o9 : Rm.Off c H (upd H8 D (.lst [.bl true, .bl false, .bl true])) := fun b o h n => by rw [upd_ne (ne_of_none h nDH)]; exact s8 _ _ (o7 b o h n)
    refine (fun (G : ∀ H9 : Hp, Rm.Off c H H9 → H9 c = some (.lst (as.map V.ref)) → H9 D = some (.lst [.bl true, .bl false, .bl true]) → Tups H9 evV as es → _) => G _ o9 hc9 hD9 tT9) (fun H9 o9 hc9 hD9 tT9 => ?_)
    refine ⟨_, rfl, .inl ⟨rfl, _, SqL.of hc9⟩, c, _, rfl, rfl, hc9, ?_⟩
    have hcA : upd H9 c (.lst (as.map V.ref).reverse) c = some (.lst (as.reverse.map V.ref)) := by rw [upd_same, List.map_reverse]
    have hDA : upd H9 c (.lst (as.map V.ref).reverse) D = some (.lst [.bl true, .bl false, .bl true]) := by rw [upd_ne Dc]; exact hD9
    have tTA : Tups (upd H9 c (.lst (as.map V.ref).reverse)) evV as.reverse es.reverse := tups_rev (tT9.off hc9 off_upd)
    have oA : Rm.Off c H (upd H9 c (.lst (as.map V.ref).reverse)) := o9.trans off_upd
    refine (fun (G : ∀ HA : Hp, Rm.Off c H HA → HA c = some (.lst (as.reverse.map V.ref)) → HA D = some (.lst [.bl true, .bl false, .bl true]) → Tups HA evV as.reverse es.reverse → _) => G _ oA hcA hDA tTA) (fun HA oA hcA hDA tTA => ?_)
    refine ⟨_, rfl, (by show 3 ≤ sizeLine; decide), fun L nL => ?_⟩
    have sL := same_upd (o := .lst [.bl true, .bl false, .bl true]) nL
    refine ⟨.list [.bool true, .bool false, .bool true], .list [.bool true, .bool false, .bool true], .lst (SqL.of (sL _ _ hDA)) (.cons (.bl _) (.cons (.bl _) (.cons (.bl _) .nil))), .lst (SqL.of upd_same) (.cons (.bl _) (.cons (.bl _) (.cons (.bl _) .nil))), sh_tft, sh_tft, true, congrArg V.bl eqv_tft, iteT ?_⟩
    have LB : Lst evV (upd HA L (.lst [.bl true, .bl false, .bl true])) c es.reverse := ⟨as.reverse, sL _ _ hcA, tTA.same sL⟩
    refine ⟨_, rfl, .ref c, recD es.reverse, rfl, Gd.Dp.q LB.dp, vg_list (fun d hd => ?_) (by rw [List.length_map, List.length_reverse]; omega), fun HC sC => q HC fun b o h n => sC _ _ (sL _ _ (oA b o h n))⟩
    obtain ⟨e, he, rfl⟩ := List.mem_map.mp hd
    exact ig_ev (hE e (List.mem_reverse.mp he))
end
end K05

set_option Elab.async false
set_option linter.all false
set_option maxRecDepth 100000
set_option maxHeartbeats 16000000
namespace K05
open PySem PySem.Spec PyProof.Rows L2 Gd Rm
/-- what the law's turn knows of its record -/
structure Tn (H0 H : Hp) (r p : Addr) (n : Nat) (es : List Ev) : Prop where
  off : Rm.Off r H0 H
  fr : H0 p = none
  pr : p ≠ r
  reel : Reel H r n
  ls : Lst evV H p es
  valid : Valid es
  ok : ∀ e ∈ es, EvOk e
  len : es.length ≤ 200
/-- great numbers of keys -/
def fE (e : Ev) : Ev := ⟨e.t, e.k * 10 ^ Int.toNat 28 + 7, e.d⟩
def VGs (K : PySem.W.Frag) (H : Hp) (vs : List V) : Prop := ∀ v ∈ vs, ∃ d, Dq K H v d ∧ VG d
theorem VGs.same {K : PySem.W.Frag} {H H' : Hp} {vs : List V} (g : VGs K H vs) (s : Same H H') : VGs K H' vs := fun v h => by
  obtain ⟨d, a, b⟩ := g v h
  exact ⟨d, a.same s, b⟩
theorem VGs.nil {K : PySem.W.Frag} {H : Hp} : VGs K H [] := fun v h => by simp at h
theorem VGs.add {K : PySem.W.Frag} {H : Hp} {vs : List V} {v : V} {d : PyData} (g : VGs K H vs) (h : Dq K H v d) (f : VG d) : VGs K H (vs ++ [v]) := fun x hx => by
  rcases List.mem_append.mp hx with hx | hx
  · exact g x hx
  · rw [List.mem_singleton.mp hx]; exact ⟨d, h, f⟩
theorem vg_of {d : PyData} {L n : Nat} (f : Fit L n d) (hL : L ≤ 10000000) (hn : n ≤ 6) (it : itOk Mx d) : VG d := ⟨f.mono hL hn, it⟩
theorem fit_closed {c : Str} (h : (reprText c).length ≤ 210) : Fit 210 0 (.str c) := ⟨rfl, Nat.zero_le _, h⟩
theorem cutDg {xs : List V} {k : Nat} : cutV xs (some (k : Int)) none = xs.drop k := by
  unfold cutV
  rw [HT.sIx_none, HT.sIx_nat]
  rcases Nat.le_total k xs.length with h | h
  · rw [Nat.min_eq_left h]
    exact List.take_of_length_le (by rw [List.length_drop]; omega)
  · rw [Nat.min_eq_right h, List.drop_of_length_le h, List.drop_of_length_le (Nat.le_refl _)]; simp
section
variable {P : Program} {w : World} {K : PySem.W.Frag} {mg : Str → Option Value} {base : Heap}
theorem Tn.same {H0 H H' : Hp} {r p : Addr} {n : Nat} {es : List Ev} (t : Tn H0 H r p n es) (s : Same H H') : Tn H0 H' r p n es := { t with off := t.off.sameTrans s, reel := t.reel.same s, ls := t.ls.same s }
theorem Tn.go {H0 H H' : Hp} {r p : Addr} {n m : Nat} {es : List Ev} (t : Tn H0 H r p n es) (o : Rm.Off r H H') (R : Reel H' r m) : Tn H0 H' r p m es := by
  have hl : Lst evV H' p es := by
    obtain ⟨x, y, z, hr, _⟩ := id t.reel
    exact t.ls.off hr t.pr o
  exact { t with off := t.off.trans o, reel := R, ls := hl }
theorem Tn.mono {H0 H : Hp} {r p : Addr} {n m : Nat} {es : List Ev} (t : Tn H0 H r p n es) (h : n ≤ m) : Tn H0 H r p m es := { t with reel := t.reel.mono h }
theorem Tn.dq {K : PySem.W.Frag} {H0 H : Hp} {r p : Addr} {n : Nat} {es : List Ev} (t : Tn H0 H r p n es) : Dq K H (.ref p) (recD es) := Gd.Dp.q t.ls.dp
def spLaw (K : PySem.W.Frag) : Sp := fun vs H Q _ => ∃ (a : Addr) (ns : List Int), vs = [.ref a] ∧ SqL K H a (ns.map V.int) ∧ ns.length ≤ 63 ∧ ∀ H', Q (.bl true) H'
theorem ok_law {f : Addr} {fd : FuncData} (bt : Bt mg) (a : Fun K "law" "law" s_law f fd) (c__law_reel : Cl P w K mg base 1 "_law_reel" (spReel K)) (c__law_spin : Cl P w K mg base 1 "_law_spin" spSpin) (c__law_record : Cl P w K mg base 2 "_law_record" spRec)
    (c__law_odd_events : Cl P w K mg base 1 "_law_odd_events" (spOdd K)) (c__law_next_event : Cl P w K mg base 1 "_law_next_event" spNext) (c__law_told_right : Cl P w K mg base 6 "_law_told_right" (spTold K)) (c__law_steps : Cl P w K mg base 1 "_law_steps" (spSteps K))
    (c__law_sizes_right : Cl P w K mg base 6 "_law_sizes_right" spSizes) (c__law_changed_right : Cl P w K mg base 7 "_law_changed_right" spChanged) (c_is_record : Cl P w K mg base 5 "is_record" (spIsR K)) (c_is_order : Cl P w K mg base 4 "is_order" (spIsO K)) : FnG P w K mg base 10 f fd ["_law_script"] (spLaw K) := by
  refine fnG a sc_law (fun vs H Q E h => ?_) (fun cdv A outer s H vs Q hg hr h => ?_)
  · obtain ⟨a, e, rfl, _⟩ := h
    rfl
  · obtain ⟨sc, ns, rfl, hS, hl, q⟩ := h
    refine ⟨_, (pss_cons (ps_for PassesOwn.never rfl (pi_range1 (by rfl) bt.m_range (pa_cons (pe_callB (call_max2 rfl) (by rfl) bt.m_max (by decide +kernel) (pa_cons pe_int (pa_cons (pe_callB (call_min2 rfl) (by rfl) bt.m_min (by decide +kernel) (pa_cons pe_int (pa_cons (pe_callB call_len_seq (by rfl) bt.m_len (by decide +kernel) (pa_cons (pv 0) pa_nil)) pa_nil))) pa_nil))) pa_nil)) (pg_name (i := 1) sc_law.nd rfl (Or.inl rfl)) (pss_cons (ps_set (i := 2) sc_law.nd rfl (Or.inr rfl) (pe_cl c__law_reel hg hr (by decide) (by rfl) (pa_cons (pv 0) (pa_cons (pv 1) pa_nil))))
      (pss_one (ps_for PassesOwn.never rfl (pi_range1 (by rfl) bt.m_range (pa_cons pe_int pa_nil)) (pg_name (i := 3) sc_law.nd rfl (Or.inl rfl)) (pss_cons (ps_set (i := 4) sc_law.nd rfl (Or.inl rfl) (pe_op op_add pe_int (pe_cl c__law_spin hg hr (by decide) (by rfl) (pa_cons (pv 2) (pa_cons pe_int pa_nil)))))
      (pss_cons (ps_set (i := 5) sc_law.nd rfl (Or.inl rfl) (pe_ix ix_list (pe_lst (pa_cons (pe_cl c__law_spin hg hr (by decide) (by rfl) (pa_cons (pv 2) (pa_cons pe_int pa_nil))) (pa_cons (pe_cl c__law_spin hg hr (by decide) (by rfl) (pa_cons (pv 2) (pa_cons pe_int pa_nil))) pa_nil))) (pv 3) (fun _ _ => rfl)))
      (pss_cons (ps_set (i := 6) sc_law.nd rfl (Or.inl rfl) (pe_cl c__law_record hg hr (by decide) (by rfl) (pa_cons (pv 2) (pa_cons (pv 4) (pa_cons (pv 5) (pa_cons (pe_lst (pa_cons pe_int (pa_cons pe_int (pa_cons pe_int (pa_cons pe_int (pa_cons (pe_op op_powW pe_int pe_int) pa_nil)))))) pa_nil))))))
      (C8.pss_cut (ps_if (pt_cmpR op_eq (pv 3) pe_int (nomark _)) (pss_one (ps_setLc (i := 6) (own := [("_law_tick", 7), ("_law_key", 8), ("_law_way", 9)]) (g := (gTup K 3 (gCons (gName 7) (gCons (gName 8) (gCons (gName 9) gNil))))) (by rfl) sc_law.nd rfl rfl (sw_true rfl rfl rfl (by decide +kernel)) (pi_list (pv 6)) (blkOk_by (N := n_law) (sc := defScope s_law) (by decide +kernel)) (fun _ _ _ _ _ => (pg_tup rfl (pgs_cons (pg_name (i := 7) sc_law.nd rfl (Or.inl rfl)) (pgs_cons (pg_name (i := 8) sc_law.nd rfl (Or.inl rfl)) (pgs_cons (pg_name (i := 9) sc_law.nd rfl (Or.inl rfl)) pgs_nil))))) (fun _ _ _ _ _ => pts_nil) (fun _ _ _ _ _ => (pe_tup (pa_cons (pv 7) (pa_cons (pe_op op_add (pe_op op_mulW (pv 8) (pe_op op_powW pe_int pe_int)) pe_int) (pa_cons (pv 9) pa_nil))))))) pss_nil)
      (pss_cons (ps_if (PW.pt (pw_or (pt_cmpR op_notBl (pe_cl c_is_record hg hr (by decide) (by rfl) (pa_cons (pv 6) pa_nil)) pe_bl (nomark _)) (pw_or1 (pt_cmpR op_notBl (pe_cl c_is_order hg hr (by decide) (by rfl) (pa_cons (pe_cl c__law_steps hg hr (by decide) (by rfl) (pa_cons (pv 6) pa_nil)) pa_nil)) pe_bl (nomark _))))) (pss_one (ps_ret pe_bl)) pss_nil)
      (pss_cons (ps_set (i := 10) sc_law.nd rfl (Or.inl rfl) (pe_cl c__law_spin hg hr (by decide) (by rfl) (pa_cons (pv 2) (pa_cons (pe_op op_add (pe_callB call_len_seq (by rfl) bt.m_len (by decide +kernel) (pa_cons (pv 6) pa_nil)) pe_int) pa_nil))))
      (C8.pss_cut (ps_set (i := 8) sc_law.nd rfl (Or.inl rfl) (pe_ifExp (pt_cmpR (op_neD hr.units) (pv 6) (pe_lst pa_nil) (nomark _)) (pe_ix ix_tup (pe_ix ix_list (pv 6) (pe_cl c__law_spin hg hr (by decide) (by rfl) (pa_cons (pv 2) (pa_cons (pe_callB call_len_seq (by rfl) bt.m_len (by decide +kernel) (pa_cons (pv 6) pa_nil)) pa_nil))) (fun _ _ => rfl)) pe_int (fun _ _ => rfl)) pe_int))
      (pss_cons (ps_asg (pe_cl c__law_next_event hg hr (by decide) (by rfl) (pa_cons (pv 6) (pa_cons (pv 10) (pa_cons (pv 8) pa_nil)))) (pg_tup rfl (pgs_cons (pg_name (i := 7) sc_law.nd rfl (Or.inl rfl)) (pgs_cons (pg_name (i := 8) sc_law.nd rfl (Or.inl rfl)) (pgs_cons (pg_name (i := 9) sc_law.nd rfl (Or.inl rfl)) pgs_nil)))))
      (pss_cons (ps_set (i := 11) sc_law.nd rfl (Or.inr rfl) (pe_op op_cat (pe_cl c__law_odd_events hg hr (by decide) (by rfl) (pa_cons (pv 7) (pa_cons (pv 8) (pa_cons (pv 9) pa_nil)))) (pe_lst (pa_cons (pe_tup (pa_cons (pv 7) (pa_cons (pv 8) (pa_cons (pv 9) pa_nil)))) pa_nil))))
      (C8.pss_cut (ps_if (pt_cmpR op_eq (pv 3) pe_int (nomark _)) (pss_one (ps_set (i := 11) sc_law.nd rfl (Or.inr rfl) (pe_lc (own := [("_law_number", 15)]) (g := (gName 15)) (by rfl) sc_law.nd (pi_range1 (by rfl) bt.m_range (pa_cons pe_int pa_nil)) (blkOk_by (N := n_law) (sc := defScope s_law) (by decide +kernel)) (fun _ _ _ _ _ => (pg_name (i := 15) sc_law.nd rfl (Or.inl rfl))) (fun _ _ _ _ _ => pts_nil) (fun _ _ _ _ _ => (pe_ix (r := rIxL K) ix_list (pv 11) (pe_cl c__law_spin hg hr (by decide) (by rfl) (pa_cons (pv 2) (pa_cons (pe_callB (r := rLenB K) call_len_seq (by rfl) bt.m_len (by decide +kernel) (pa_cons (pv 11) pa_nil)) pa_nil))) (fun _ _ => rfl)))))) pss_nil)
      (pss_cons (ps_for PassesOwn.never rfl (pi_list (pv 11)) (pg_name (i := 12) sc_law.nd rfl (Or.inl rfl)) (pss_cons (ps_set (i := 13) sc_law.nd rfl (Or.inl rfl) (pe_op op_cat (pe_op op_cat (pe_slice sl_list (pv 6) po_none (po_some (pv 10))) (pe_lst (pa_cons (pv 12) pa_nil))) (pe_slice sl_list (pv 6) (po_some (pv 10)) po_none)))
      (pss_one (ps_if (PW.pt (pw_or (pt_not (pt_val (pe_cl c__law_told_right hg hr (by decide) (by rfl) (pa_cons (pv 13) pa_nil)))) (pw_or1 (pt_not (pt_val (pe_cl c__law_told_right hg hr (by decide) (by rfl) (pa_cons (pe_cl c__law_steps hg hr (by decide) (by rfl) (pa_cons (pv 13) pa_nil)) pa_nil))))))) (pss_one (ps_ret pe_bl)) pss_nil))))
      (pss_cons (ps_for PassesOwn.never rfl (pi_list (pe_lst (pa_cons pe_non (pa_cons pe_int (pa_cons pe_bl (pa_cons pe_str (pa_cons pe_str (pa_cons (pe_tup pa_nil) (pa_cons pe_dnewK (pa_cons (pe_callTy call_tuple_of (by rfl) bt.m_tuple (by decide +kernel) (pa_cons (pv 6) pa_nil)) (pa_cons (pe_lst (pa_cons (pv 6) pa_nil)) (pa_cons (pe_lst (pa_cons pe_non pa_nil)) (pa_cons (pe_lst (pa_cons (pe_lst pa_nil) pa_nil)) (pa_cons (pe_revL (pv 6)) pa_nil)))))))))))))) (pg_name (i := 14) sc_law.nd rfl (Or.inl rfl)) (pss_one (ps_if (pt_not (pt_val (pe_cl c__law_told_right hg hr (by decide) (by rfl) (pa_cons (pv 14) pa_nil)))) (pss_one (ps_ret pe_bl)) pss_nil)))
      (pss_cons (ps_if (PW.pt (pw_or (pt_not (pt_val (pe_cl c__law_told_right hg hr (by decide) (by rfl) (pa_cons (pe_slice sl_list (pv 6) (po_some pe_int) po_none) pa_nil)))) (pw_or1 (pt_not (pt_val (pe_cl c__law_told_right hg hr (by decide) (by rfl) (pa_cons (pe_op op_cat (pv 6) (pe_slice sl_list (pv 6) po_none (po_some pe_int))) pa_nil))))))) (pss_one (ps_ret pe_bl)) pss_nil)
      (pss_one (ps_if (pt_not (pt_val (pe_cl c__law_changed_right hg hr (by decide) (by rfl) (pa_cons (pv 6) pa_nil)))) (pss_one (ps_ret pe_bl)) pss_nil)))))))))))))))))))
      (pss_cons (ps_if (pt_not (pt_val (pe_cl0 c__law_sizes_right hg hr (by decide) (by rfl)))) (pss_one (ps_ret pe_bl)) pss_nil)
      (pss_one (ps_ret (pe_and (pe_cmpR op_isBl (pe_cl c_is_record hg hr (by decide) (by rfl) (pa_cons (pe_lst pa_nil) pa_nil)) pe_bl (nomark _)) (pe_one (pe_cmpR op_isBl (pe_cl c_is_order hg hr (by decide) (by rfl) (pa_cons (pe_lst (pa_cons (pe_tup (pa_cons pe_int (pa_cons pe_str pa_nil))) pa_nil)) pa_nil)) pe_bl (nomark _)))))))), ?_⟩
    refine ⟨_, rfl, sc, _, rfl, .inl hS, _, _, rfl, ?_⟩
    refine ⟨1, _, rfl, _, rfl, ?_, ?_, ?_⟩
    · (repeat' split) <;> omega
    · (repeat' split) <;> omega
    refine for_it walk_range (fun i σ H' => Same H H' ∧ ∃ y1 y2 y3 y4 y5 y6 y7 y8 y9 y10 y11 y12 y13 y14 y15, σ = [some (.ref sc), y1, y2, y3, y4, y5, y6, y7, y8, y9, y10, y11, y12, y13, y14, y15]) ⟨Same.refl _, _, _, _, _, _, _, _, _, _, _, _, _, _, _, _, rfl⟩ (fun _ _ _ _ _ => True.intro) (fun i x σ Hx H1 hi p y => ?_) (fun σ H1 p => ?_)
    · obtain ⟨s1, y1, y2, y3, y4, y5, y6, y7, y8, y9, y10, y11, y12, y13, y14, y15, rfl⟩ := p
      obtain ⟨rfl, hx⟩ := y
      have hx : x = .int (0 + (i : Int)) := hx
      have e0 : (0 : Int) + (i : Int) = ((i : Nat) : Int) := Int.zero_add _
      rw [e0] at hx
      subst hx
      have hi4 : i < 60 := by
        refine Nat.lt_of_lt_of_le hi ?_
        (repeat' split) <;> omega
      have hS1 : SqL K H1 sc (ns.map V.int) := s1.seq hS
      refine ⟨_, rfl, _, rfl, sc, ns, i, rfl, hS1, hl, by omega, fun r H2 s2 nr R2 => ?_⟩
      dsimp only [gName]
      rw [show List.set (List.set ([some (V.ref sc), y1, y2, y3, y4, y5, y6, y7, y8, y9, y10, y11, y12, y13, y14, y15] : List (Option V)) 1 (some (V.int (i : Int)))) 2 (some (V.ref r)) = [some (V.ref sc), some (V.int (i : Int)), some (V.ref r), y3, y4, y5, y6, y7, y8, y9, y10, y11, y12, y13, y14, y15] from rfl]
      refine ⟨2, rfl, by decide, by decide, for_it walk_range (fun j σ H' => Rm.Off r H2 H' ∧ Reel H' r (2000 * j) ∧ ∃ y3 y4 y5 y6 y7 y8 y9 y10 y11 y12 y13 y14 y15, σ = [some (.ref sc), some (.int (i : Int)), some (.ref r), y3, y4, y5, y6, y7, y8, y9, y10, y11, y12, y13, y14, y15]) ⟨Off.refl _, R2, _, _, _, _, _, _, _, _, _, _, _, _, _, rfl⟩ (fun _ _ _ _ _ => True.intro) (fun j x σ Hx H3 hj p y => ?_) (fun σ H3 p => ?_)⟩
      · obtain ⟨o3, R3, y3, y4, y5, y6, y7, y8, y9, y10, y11, y12, y13, y14, y15, rfl⟩ := p
        obtain ⟨rfl, hx⟩ := y
        have hx : x = .int (0 + (j : Int)) := hx
        rw [Int.zero_add] at hx
        subst hx
        have hj2 : j < 2 := hj
        -- keys
        refine ⟨_, rfl, r, 16, 2000 * j, rfl, by decide, by decide, by show _ < 1000000000; omega, R3, fun kd H4 kd0 kd1 R4 o4 => ⟨_, _, rfl, rfl, ?_⟩⟩
        refine ⟨_, rfl, r, 12, 2000 * j + 1, rfl, by decide, by decide, by show _ < 1000000000; omega, R4, fun d1 H5 d10 d11 R5 o5 => ?_⟩
        refine ⟨_, rfl, r, 201, 2000 * j + 1 + 1, rfl, by decide, by decide, by show _ < 1000000000; omega, R5, fun d2 H6 d20 d21 R6 o6 => ?_⟩
        refine ⟨(by show 2 ≤ sizeLine; decide), fun W nW => ?_⟩
        have sW := same_upd (o := .lst [.int d1, .int d2]) nW
        have hW := upd_same (H := H6) (a := W) (o := .lst (([d1, d2] : List Int).map V.int))
        have hjw : ((j : Nat) : Int) < (([d1, d2] : List Int).length : Int) := by show ((j : Nat) : Int) < 2; omega
        obtain ⟨sz, asz, msz⟩ := getI (ns := [d1, d2]) (Int.natCast_nonneg j) hjw
        have hsz : 0 ≤ sz ∧ sz ≤ 200 := by
          have hm := List.mem_of_getElem? msz
          simp only [List.mem_cons, List.mem_nil_iff, or_false] at hm
          omega
        obtain ⟨size, rfl⟩ := Int.eq_ofNat_of_zero_le hsz.1
        refine ⟨_, rfl, W, _, _, .int (size : Int), rfl, rfl, SqL.of hW, asz, ?_⟩
        have o36 := ((o3.trans o4).trans o5).trans o6
        have o7 := o36.sameTrans sW
        have R7 := R6.same sW
        refine (fun (G : ∀ H7 : Hp, Rm.Off r H2 H7 → Reel H7 r (2000 * j + 1 + 1 + 1) → _) => G _ o7 R7) (fun H7 o7 R7 => ?_)
        -- record
        refine ⟨_, rfl, _, rfl, _, rfl, _, _, rfl, rfl, powW (n := 40) (k := 9) (by decide) (by decide), (by show 5 ≤ sizeLine; decide), fun g ng => ?_⟩
        have sg := same_upd (o := .lst [.int 0, .int 0, .int 1, .int 5, .int (10 ^ Int.toNat 9)]) ng
        have hgl := upd_same (H := H7) (a := g) (o := .lst (([0, 0, 1, 5, 10 ^ Int.toNat 9] : List Int).map V.int))
        have gr : g ≠ r := R7.new ng
        have e9 : (10 : Int) ^ Int.toNat 9 = 1000000000 := rfl
        refine ⟨r, g, 2000 * j + 1 + 1 + 1, size, 1 + kd, [0, 0, 1, 5, 10 ^ Int.toNat 9], rfl, R7.same sg, by show _ < 1000000000; omega, by omega, by omega, by omega, hgl, gr, by decide, by decide, fun x hx => ?_, fun H8 p es o8 np R8 L8 ok8 => ?_⟩
        · simp only [List.mem_cons, List.mem_nil_iff, or_false] at hx
          omega
        have o28 : Rm.Off r H2 H8 := (o7.sameTrans sg).trans o8
        obtain ⟨rx, ry, rz, hr8, _⟩ := id R8
        have pr : p ≠ r := by
          obtain ⟨_, _, _, hr7, _⟩ := id R7
          exact (ne_of_none (sg _ _ hr7) np).symm
        have T8 : Tn H2 H8 r p (2000 * j + 1100) es := by
          refine ⟨o28, ?_, pr, R8.mono (by omega), L8, ok8.valid, fun e he => ⟨?_, (ok8.key e he).1, ?_⟩, by rw [ok8.len]; omega⟩
          · obtain ⟨_, _, _, hr7, _⟩ := id R7
            exact (o7.sameTrans sg).free (sg _ _ hr7) np
          · have := ok8.tick e he; omega
          · have := (ok8.key e he).2; omega
        have hk16 : ∀ e ∈ es, e.k ≤ 20 := fun e he => by have := (ok8.key e he).2; omega
        clear L8 ok8 R8 o8 np hgl gr sg R7 o7
        refine ⟨fun σ H' => ∃ p es y4 y5 y7 y8 y9 y10 y11 y12 y13 y14 y15, σ = [some (V.ref sc), some (V.int (i : Int)), some (V.ref r), some (V.int (j : Int)), y4, y5, some (V.ref p), y7, y8, y9, y10, y11, y12, y13, y14, y15] ∧ Tn H2 H' r p (2000 * j + 1100) es, ?_, ?_⟩
        · refine ⟨_, rfl, rfl, ?_⟩
          by_cases z : j = 1
          · refine ⟨true, congrArg V.bl (decide_eq_true (by rw [z]; rfl)), iteT ?_⟩
            obtain ⟨as, hp8, hT8⟩ := id T8.ls
            have hal := hT8.1
            have e28 : (10 : Int) ^ Int.toNat 28 = 10000000000000000000000000000 := rfl
            refine ⟨_, rfl, p, rfl, ⟨_, SqL.of hp8⟩, fun M nM => lc_it (walk_list (xs := as.map V.ref)) (fun u H' => Same H8 H' ∧ Lst evV H' M ((es.take u).map fE)) ⟨same_upd nM, [], upd_same, Tups.nil⟩ (fun u H' _ z => SqL.of (z.1 _ _ hp8)) (fun u x H9 HA hu z y => ?_) (fun H9 z => ?_)⟩
            · obtain ⟨s9, bs, hM, hB⟩ := z
              obtain ⟨rfl, e2⟩ := y
              rw [List.length_map] at hu
              have hu' : u < es.length := by omega
              obtain ⟨b, hb, hbt⟩ := hT8.at_ hu'
              have e2' : x = .ref b := by
                have e2 : (as.map V.ref)[u]? = some x := e2
                rw [List.getElem?_map, hb] at e2
                exact (Option.some.inj e2).symm
              subst e2'
              have hbl := hB.1
              rw [List.length_map, List.length_take] at hbl
              have hk := hk16 _ (List.getElem_mem hu')
              have hk0 := (T8.ok _ (List.getElem_mem hu')).k0
              refine ⟨b, _, rfl, SqT.of (s9 _ _ hbt), rfl, _, _, rfl, _, _, rfl, _, _, rfl, rfl, rfl, _, rfl, _, rfl, _, _, rfl, rfl, powW (n := 40) (k := 28) (by decide) (by decide), _, _, rfl, rfl, wide_mul (a := 40) (b := 120) (by omega) (by decide) (by decide) (by decide) (by decide), _, _, rfl, rfl, _, rfl, (by show 3 ≤ sizeLine; decide), fun T nT => ?_⟩
              have sT := same_upd (o := .tup (evV (fE es[u]))) nT
              refine ⟨_, sT _ _ hM, by rw [List.length_map]; have := T8.len; exact small1000 (by omega), Same.off (s9.trans sT) nM off_upd, ?_⟩
              rw [List.take_add_one, List.getElem?_eq_getElem hu', List.map_append]
              refine ⟨bs ++ [T], by rw [upd_same, List.map_append]; rfl, ?_⟩
              exact ((hB.same sT).snoc (a := T) (e := fE es[u]) upd_same).off (sT _ _ hM) off_upd
            · obtain ⟨s9, hM⟩ := z
              rw [List.length_map, hal, List.take_length] at hM
              have R9 := T8.reel.same s9
              refine ⟨M, es.map fE, _, _, _, _, _, _, _, _, _, _, _, rfl, T8.off.sameTrans s9, ?_, ?_, R9, hM, ?_, fun e he => ?_, by rw [List.length_map]; exact T8.len⟩
              · obtain ⟨_, _, _, hr8, _⟩ := id T8.reel
                exact T8.off.free hr8 nM
              · obtain ⟨_, _, _, hr8, _⟩ := id T8.reel
                exact (ne_of_none hr8 nM).symm
              · exact T8.valid.rekey (f := fun k => k * 10 ^ Int.toNat 28 + 7) (fun a b z => by rw [e28] at z; omega) (fun e he => by have := (T8.ok e he).k0; show 0 ≤ e.k * 10 ^ Int.toNat 28 + 7; rw [e28]; omega)
              · obtain ⟨x, hx, rfl⟩ := List.mem_map.mp he
                have hk := hk16 x hx
                have hk0 := (T8.ok x hx).k0
                refine ⟨(T8.ok x hx).t, ?_, ?_⟩
                · show 0 ≤ x.k * 10 ^ Int.toNat 28 + 7
                  rw [e28]; omega
                · show x.k * 10 ^ Int.toNat 28 + 7 ≤ 10 ^ 33
                  rw [e28]; omega
          · refine ⟨false, congrArg V.bl (decide_eq_false fun y => z (by have := V.int.inj y; omega)), iteF ?_⟩
            exact ⟨p, es, _, _, _, _, _, _, _, _, _, _, _, rfl, T8⟩
        clear T8 hr8 o28 pr
        rintro σ H8 ⟨p, es, y4, y5, y7, y8, y9, y10, y11, y12, y13, y14, y15, rfl, T8⟩
        have l200 := T8.len
        refine ⟨_, rfl, .ref p, recD es, rfl, T8.dq, fun H9 s9 => ?_⟩
        rw [rec_valid T8.valid (by omega)]
        refine ⟨true, true, rfl, rfl, _, rfl, iteF ?_⟩
        have T9 := T8.same s9
        obtain ⟨as, hp9, hT9⟩ := id T9.ls
        have hal := hT9.1
        refine ⟨_, rfl, p, _, _, rfl, SqL.of hp9, dq_evs hT9, by rw [List.length_map]; omega, fun HA q1 ys sA nq hq hDy => ?_⟩
        rw [tail_evs] at hDy
        refine ⟨.ref q1, ordD es, rfl, .lst (SqL.of hq) hDy, fun HB sB => ?_⟩
        rw [ord_valid T8.valid.o (by omega)]
        refine ⟨true, true, rfl, rfl, _, rfl, iteF ?_⟩
        have TB := (T9.same sA).same sB
        have hpB := sB _ _ (sA _ _ hp9)
        refine (fun (G : ∀ HB : Hp, Tn H2 HB r p (2000 * j + 1100) es → HB p = some (.lst (as.map V.ref)) → _) => G _ TB hpB) (fun HB TB hpB => ?_)
        -- at
        refine ⟨_, rfl, _, rfl, p, _, rfl, .inl (SqL.of hpB), _, _, rfl, rfl, r, _, 2000 * j + 1100, rfl, by omega, by rw [List.length_map]; omega, by show _ < 1000000000; omega, TB.reel, fun dat HC da0 da1 RC oC => ?_⟩
        rw [List.length_map] at da1
        obtain ⟨at_, rfl⟩ := Int.eq_ofNat_of_zero_le da0
        have hat : at_ ≤ es.length := by omega
        have TC := TB.go oC RC
        refine ⟨fun σ H' => ∃ k y4 y5 y7 y9 y11 y12 y13 y14 y15, σ = [some (V.ref sc), some (V.int (i : Int)), some (V.ref r), some (V.int (j : Int)), y4, y5, some (V.ref p), y7, some (V.int k), y9, some (V.int (at_ : Int)), y11, y12, y13, y14, y15] ∧ 0 ≤ k ∧ k ≤ 10 ^ 33 ∧ Tn H2 H' r p (2000 * j + 1105) es, ?_, ?_⟩
        · obtain ⟨as, hpC, hTC⟩ := id TC.ls
          have hal := hTC.1
          refine ⟨_, rfl, Nat.zero_le _, fun U nU => ⟨recD es, .list [], (TC.ls.same (same_upd nU)).dp, .lst (SqL.of upd_same) .nil, shaped_rec es, rfl, ?_⟩⟩
          have TD := TC.same (same_upd (o := .lst []) nU)
          have hpD := same_upd (o := .lst []) nU _ _ hpC
          have emp : PyData.eqv (recD es) (.list []) = es.isEmpty := by
            rw [show PyData.eqv (recD es) (.list []) = (es.map evD).isEmpty from eqv_nil _]; cases es <;> rfl
          rcases Nat.eq_zero_or_pos es.length with y | y
          · exact ⟨false, congrArg V.bl (by rw [emp, List.length_eq_zero_iff.mp y]; rfl), iteF ⟨0, _, _, _, _, _, _, _, _, _, rfl, by decide, by decide, TD.mono (by omega)⟩⟩
          · refine ⟨true, congrArg V.bl (by rw [emp]; cases es with | nil => exact absurd y (Nat.lt_irrefl 0) | cons => rfl), iteT ?_⟩
            refine ⟨_, rfl, _, rfl, _, rfl, p, _, rfl, .inl (SqL.of hpD), r, _, 2000 * j + 1100 + 1, rfl, by rw [List.length_map]; omega, by rw [List.length_map]; omega, by show _ < 1000000000; omega, TD.reel, fun e HE e00 e1 RE oE => ?_⟩
            rw [List.length_map] at e1
            obtain ⟨u, rfl⟩ := Int.eq_ofNat_of_zero_le e00
            have TE := TD.go oE RE
            have hu : u < es.length := by omega
            obtain ⟨as2, hpE, hTE⟩ := id TE.ls
            obtain ⟨b, hb, hbt⟩ := hTE.at_ hu
            have hk := TE.ok _ (List.getElem_mem hu)
            exact ⟨p, _, _, .ref b, rfl, rfl, SqL.of hpE, atI_nat (j := u) (by rw [List.getElem?_map, hb]; rfl), b, _, 1, .int es[u].k, rfl, rfl, SqT.of hbt, atI_nat (j := 1) rfl, es[u].k, _, _, _, _, _, _, _, _, _, rfl, hk.k0, hk.k1, TE.mono (by omega)⟩
        clear hpB hp9 hT9 hq hDy TB TC T9 T8 RC oC
        rintro σ HC ⟨k, y4, y5, y7, y9, y11, y12, y13, y14, y15, rfl, k0, k1, TC⟩
        have l200 := TC.len
        refine ⟨_, rfl, _, rfl, _, rfl, p, es, at_, k, rfl, TC.ls, TC.ok, hat, by omega, fun HD q1 t b sD hq1 ht => ?_⟩
        have TD := TC.same sD
        refine ⟨q1, _, rfl, SqT.of hq1, rfl, _, _, rfl, _, _, rfl, _, _, rfl, rfl, ?_⟩
        dsimp only
        rw [show List.set (List.set (List.set ([some (V.ref sc), some (V.int (i : Int)), some (V.ref r), some (V.int (j : Int)), y4, y5, some (V.ref p), y7, some (V.int k), y9, some (V.int (at_ : Int)), y11, y12, y13, y14, y15] : List (Option V)) 7 (some (V.int t))) 8 (some (V.int k))) 9 (some (V.str (wayS b))) = [some (V.ref sc), some (V.int (i : Int)), some (V.ref r), some (V.int (j : Int)), y4, y5, some (V.ref p), some (V.int t), some (V.int k), some (V.str (wayS b)), some (V.int (at_ : Int)), y11, y12, y13, y14, y15] from rfl]
        refine ⟨_, rfl, _, rfl, _, rfl, t, k, b, r, _, rfl, TD.reel, ht, k0, k1, fun HE q2 xs sE nq2 hq2 gx hxl => ?_⟩
        have TE := TD.same sE
        refine ⟨_, rfl, _, rfl, _, rfl, (by show 3 ≤ sizeLine; decide), fun T nT => ?_⟩
        have sT := same_upd (o := .tup [.int t, .int k, .str (wayS b)]) nT
        have hT := upd_same (H := HE) (a := T) (o := .tup [.int t, .int k, .str (wayS b)])
        have wT := wo_at (S := [r]) hT (fun X hX => by rw [List.mem_singleton.mp hX]; exact TE.reel.new nT)
        refine (fun (G : ∀ HF : Hp, Same HE HF → wo [r] HF T = some (.tup [.int t, .int k, .str (wayS b)]) → _) => G _ sT wT) (fun HF sT wT => ?_)
        have gT : GI K (wo [r] HF) (.ref T) := gi3 (m := Mx) (m' := 0) wT (pg_int (by omega) (by show t < 10 ^ 40; omega)) (pg_int (by omega) (by show k < 10 ^ 40; omega)) (pg_way b)
        have gxF := gx.same (wo_same (S := [r]) sT)
        refine ⟨(by show 1 ≤ sizeLine; decide), fun L nL => ?_⟩
        have sL := same_upd (o := .lst [.ref T]) nL
        have hL := upd_same (H := HF) (a := L) (o := .lst [.ref T])
        refine (fun (G : ∀ HG : Hp, Same HF HG → HG L = some (.lst [.ref T]) → _) => G _ sL hL) (fun HG sL hL => ?_)
        refine ⟨q2, L, _, _, rfl, rfl, sL _ _ (sT _ _ hq2), hL, by rw [hxl]; show 38 ≤ sizeLine; decide, fun S nS => ?_⟩
        have sS := same_upd (o := .lst (xs ++ [.ref T])) nS
        have hS' := upd_same (H := HG) (a := S) (o := .lst (xs ++ [.ref T]))
        have TF := ((TE.same sT).same sL).same sS
        have Sr : S ≠ r := ((TE.same sT).same sL).reel.new nS
        have gS : GIs K (wo [r] (upd HG S (.lst (xs ++ [.ref T])))) (xs ++ [.ref T]) := (GIs.app gxF (.cons gT .nil)).same ((wo_same sL).trans (wo_same sS))
        refine (fun (G : ∀ HI : Hp, Tn H2 HI r p (2000 * j + 1105) es → HI S = some (.lst (xs ++ [.ref T])) → GIs K (wo [r] HI) (xs ++ [.ref T]) → _) => G _ TF hS' gS) (fun HI TF hS' gS => ?_)
        obtain ⟨zs, hS', gS, hzl⟩ : ∃ zs, HI S = some (.lst zs) ∧ GIs K (wo [r] HI) zs ∧ zs.length = 38 := ⟨_, hS', gS, by rw [List.length_append, hxl]; rfl⟩
        refine ⟨fun σ H' => ∃ S zs y4 y5 y7 y8 y9 y12 y13 y14 y15, σ = [some (V.ref sc), some (V.int (i : Int)), some (V.ref r), some (V.int (j : Int)), y4, y5, some (V.ref p), y7, y8, y9, some (V.int (at_ : Int)), some (V.ref S), y12, y13, y14, y15] ∧ H' S = some (.lst zs) ∧ GIs K H' zs ∧ Tn H2 H' r p (2000 * j + 1200) es, ?_, ?_⟩
        · refine ⟨_, rfl, rfl, ?_⟩
          by_cases z : j = 1
          · refine ⟨true, congrArg V.bl (decide_eq_true (by rw [z]; rfl)), iteT ?_⟩
            refine ⟨5, rfl, by decide, by decide, fun M nM => lc_it walk_range (fun u H' => Rm.Off r HI H' ∧ Reel H' r (2000 * j + 1105 + u) ∧ ∃ ws, H' M = some (.lst ws) ∧ GIs K (wo [M, r] H') ws ∧ ws.length = u) ⟨Off.of (same_upd nM), TF.reel.same (same_upd nM), [], upd_same, GIs.nil, rfl⟩ (fun _ _ _ _ => True.intro) (fun u x H9 HA hu z y => ?_) (fun H9 z => ?_)⟩
            · obtain ⟨o9, R9, ws, hM, gw, hwl⟩ := z
              obtain ⟨rfl, rfl⟩ := y
              have hS9 := o9 _ _ hS' Sr
              have Mr : M ≠ r := TF.reel.new nM
              refine ⟨rfl, _, rfl, _, rfl, _, rfl, S, _, rfl, .inl (SqL.of hS9), r, _, 2000 * j + 1105 + u, rfl, by rw [hzl]; decide, by rw [hzl]; decide, by show _ < 1000000000; omega, R9, fun e HB e00 e1 RB oB => ?_⟩
              have oIB := o9.trans oB
              obtain ⟨v, rfl⟩ := Int.eq_ofNat_of_zero_le e00
              have hv : v < zs.length := by omega
              refine ⟨S, _, _, zs[v], rfl, rfl, SqL.of (oB _ _ hS9 Sr), atI_nat (List.getElem?_eq_getElem hv), _, oB _ _ hM Mr, by rw [sizeLine_eq]; omega, ?_, ?_, ws ++ [zs[v]], upd_same, ?_, by rw [List.length_append, hwl]; rfl⟩
              · exact fun b o h n => by rw [upd_ne (ne_of_none h nM)]; exact oIB b o h n
              · have hx : Reel HB r (2000 * j + 1105 + (u + 1)) := RB
                obtain ⟨a1, a2, a3, a4, a5⟩ := hx
                exact ⟨a1, a2, a3, by rw [upd_ne Mr.symm]; exact a4, a5⟩
              · have w1 : Same (wo [M, r] _) (wo [M, r] HB) := fun b o h => by
                  have hb := wo_all _ _ h
                  unfold wo at h ⊢
                  split at h
                  · cases h
                  · rename_i zz
                    rw [if_neg zz]
                    exact oB b o hb (fun e => zz (by rw [e]; simp))
                have w2 : Same (wo [r] HI) (wo [M, r] HB) := fun b o h => by
                  have hb := wo_all _ _ h
                  unfold wo at h ⊢
                  split at h
                  · cases h
                  · rename_i zz
                    rw [if_neg (fun e => by
                      rcases List.mem_cons.mp e with e | e
                      · rw [e, nM] at hb; cases hb
                      · exact zz e)]
                    exact oIB b o hb (fun e => zz (by rw [e]; simp))
                exact GIs.app ((gw.same w1).same (wo_upd (by simp))) (.cons (((gS _ (List.getElem_mem hv)).same w2).same (wo_upd (by simp))) .nil)
            · obtain ⟨o9, R9, ws, hM, gw, hwl⟩ := z
              exact ⟨M, ws, _, _, _, _, _, _, _, _, _, rfl, hM, gw.same wo_all, (TF.go o9 R9).mono (by omega)⟩
          · refine ⟨false, congrArg V.bl (decide_eq_false fun y => z (by have := V.int.inj y; omega)), iteF ?_⟩
            exact ⟨S, zs, _, _, _, _, _, _, _, _, _, rfl, hS', gS.same wo_all, TF.mono (by omega)⟩
        clear gS hS' TF gT gxF wT gx hq2 nq2 TE TD hq1 TC
        rintro σ HI ⟨S, zs, y4, y5, y7, y8, y9, y12, y13, y14, y15, rfl, hS', gS, TI⟩
        obtain ⟨as, hpI, hTI⟩ := id TI.ls
        have hal := hTI.1
        have igE : ∀ d ∈ es.map evD, IG d := fun d hd => by
          obtain ⟨e, he, rfl⟩ := List.mem_map.mp hd
          exact ig_ev (TI.ok e he)
        refine ⟨_, rfl, S, rfl, ⟨_, SqL.of hS'⟩, for_it (walk_list (xs := zs)) (fun u σ H' => Same HI H' ∧ ∃ y12 y13, σ = [some (V.ref sc), some (V.int (i : Int)), some (V.ref r), some (V.int (j : Int)), y4, y5, some (V.ref p), y7, y8, y9, some (V.int (at_ : Int)), some (V.ref S), y12, y13, y14, y15]) ⟨Same.refl _, _, _, rfl⟩ (fun u σ H' _ z => SqL.of (z.1 _ _ hS')) (fun u x σ H9 HA hu z y => ?_) (fun σ H9 z => ?_)⟩
        · obtain ⟨s9, y12, y13, rfl⟩ := z
          obtain ⟨rfl, hx⟩ := y
          obtain ⟨d, hd, hig⟩ := gS x (List.mem_of_getElem? hx)
          have hp := s9 _ _ hpI
          have sA := Same.refl HA
          refine ⟨_, rfl, _, rfl, (at_ : Int), rfl, p, _, rfl, SqL.of hp, fun p1 n1 => ?_⟩
          have s1 := same_upd (o := .lst (cutV (as.map V.ref) none (some (at_ : Int)))) n1
          have e1 := upd_same (H := HA) (a := p1) (o := .lst (cutV (as.map V.ref) none (some (at_ : Int))))
          refine (fun (G : ∀ H_1 : Hp, Same HA H_1 → H_1 p1 = some (.lst (cutV (as.map V.ref) none (some (at_ : Int)))) → _) => G _ s1 e1) (fun H_1 s1 e1 => ?_)
          have hp := s1 _ _ hp
          have sA := sA.trans s1
          rw [cutT] at e1
          refine ⟨_, rfl, (by show 1 ≤ sizeLine; decide), fun p2 n2 => ?_⟩
          have s2 := same_upd (o := .lst [x]) n2
          have e2 := upd_same (H := H_1) (a := p2) (o := .lst [x])
          refine (fun (G : ∀ H_2 : Hp, Same H_1 H_2 → H_2 p2 = some (.lst [x]) → _) => G _ s2 e2) (fun H_2 s2 e2 => ?_)
          have hp := s2 _ _ hp
          have sA := sA.trans s2
          have l200 := TI.len
          refine ⟨p1, p2, _, _, rfl, rfl, s2 _ _ e1, e2, (by rw [sizeLine_eq]; simp only [List.length_append, List.length_take, List.length_drop, List.length_map, List.length_cons, List.length_nil]; omega), fun p3 n3 => ?_⟩
          have s3 := same_upd (o := .lst ((as.map V.ref).take at_ ++ [x])) n3
          have e3 := upd_same (H := H_2) (a := p3) (o := .lst ((as.map V.ref).take at_ ++ [x]))
          refine (fun (G : ∀ H_3 : Hp, Same H_2 H_3 → H_3 p3 = some (.lst ((as.map V.ref).take at_ ++ [x])) → _) => G _ s3 e3) (fun H_3 s3 e3 => ?_)
          have hp := s3 _ _ hp
          have sA := sA.trans s3
          refine ⟨_, rfl, _, rfl, (at_ : Int), rfl, p, _, rfl, SqL.of hp, fun p4 n4 => ?_⟩
          have s4 := same_upd (o := .lst (cutV (as.map V.ref) (some (at_ : Int)) none)) n4
          have e4 := upd_same (H := H_3) (a := p4) (o := .lst (cutV (as.map V.ref) (some (at_ : Int)) none))
          refine (fun (G : ∀ H_4 : Hp, Same H_3 H_4 → H_4 p4 = some (.lst (cutV (as.map V.ref) (some (at_ : Int)) none)) → _) => G _ s4 e4) (fun H_4 s4 e4 => ?_)
          have hp := s4 _ _ hp
          have sA := sA.trans s4
          rw [cutD (by rw [List.length_map]; omega)] at e4
          refine ⟨p3, p4, _, _, rfl, rfl, s4 _ _ e3, e4, (by rw [sizeLine_eq]; simp only [List.length_append, List.length_take, List.length_drop, List.length_map, List.length_cons, List.length_nil]; omega), fun p5 n5 => ?_⟩
          have s5 := same_upd (o := .lst ((as.map V.ref).take at_ ++ [x] ++ (as.map V.ref).drop at_)) n5
          have e5 := upd_same (H := H_4) (a := p5) (o := .lst ((as.map V.ref).take at_ ++ [x] ++ (as.map V.ref).drop at_))
          refine (fun (G : ∀ H_5 : Hp, Same H_4 H_5 → H_5 p5 = some (.lst ((as.map V.ref).take at_ ++ [x] ++ (as.map V.ref).drop at_)) → _) => G _ s5 e5) (fun H_5 s5 e5 => ?_)
          have hp := s5 _ _ hp
          have sA := sA.trans s5
          have s10 := s9.trans sA
          have hDI := dq_evs (K := K) hTI
          have hDB : ∀ H', Same HI H' → DqAll K H' ((as.map V.ref).take at_ ++ [x] ++ (as.map V.ref).drop at_) ((es.map evD).take at_ ++ [d] ++ (es.map evD).drop at_) := fun H' s => DqAll.append (DqAll.append ((hDI.same s).take at_) (.cons (hd.same s) .nil)) ((hDI.same s).drop at_)
          have igB : ∀ x ∈ (es.map evD).take at_ ++ [d] ++ (es.map evD).drop at_, IG x := fun x hx => by
            rcases List.mem_append.mp hx with hx | hx
            · rcases List.mem_append.mp hx with hx | hx
              · exact igE x (List.mem_of_mem_take hx)
              · rw [List.mem_singleton.mp hx]; exact hig
            · exact igE x (List.mem_of_mem_drop hx)
          have lB : ((es.map evD).take at_ ++ [d] ++ (es.map evD).drop at_).length ≤ 500 := by simp only [List.length_append, List.length_take, List.length_drop, List.length_map, List.length_cons, List.length_nil]; omega
          refine ⟨_, rfl, .ref p5, _, rfl, .lst (SqL.of e5) (hDB _ s10), vg_list igB lB, fun HJ sJ => ⟨_, rfl, iteF ?_⟩⟩
          refine ⟨_, rfl, p5, _, _, rfl, SqL.of (sJ _ _ e5), hDB _ (s10.trans sJ), lB, fun HK q3 ys sK nq3 hq3 hD3 => ?_⟩
          exact ⟨.ref q3, _, rfl, .lst (SqL.of hq3) hD3, vg_tails igB lB, fun HL sL => ⟨_, rfl, iteF ⟨(s10.trans sJ).trans (sK.trans sL), _, _, rfl⟩⟩⟩
        · obtain ⟨s9, y12, y13, rfl⟩ := z
          have T9 := TI.same s9
          clear gS hS'
          have hp := s9 _ _ hpI
          have sA := Same.refl H9
          have l200 := TI.len
          have hDI := (dq_evs (K := K) hTI).same s9
          have gv : VGs K H9 [] := VGs.nil
          have gv := VGs.add gv (.non) (vg_of fit_none (by decide) (by decide) trivial)
          have gv := VGs.add gv (.int 0) (vg_of (fit_int (by decide)) (by decide) (by decide) trivial)
          have gv := VGs.add gv (.bl true) (vg_of (fit_bool true) (by decide) (by decide) trivial)
          have gv := VGs.add gv (.str ("" : String)) (vg_of (fit_closed (by decide +kernel)) (by decide) (by decide) trivial)
          have gv := VGs.add gv (.str ("down" : String)) (vg_of (fit_closed (by decide +kernel)) (by decide) (by decide) trivial)
          refine ⟨Nat.zero_le _, fun p1 n1 => ?_⟩
          have s1 := same_upd (o := .tup []) n1
          have e1 := upd_same (H := H9) (a := p1) (o := .tup [])
          refine (fun (G : ∀ H_1 : Hp, Same H9 H_1 → H_1 p1 = some (.tup []) → _) => G _ s1 e1) (fun H_1 s1 e1 => ?_)
          have gv := gv.same s1
          have hp := s1 _ _ hp
          have sA := sA.trans s1
          have gv := VGs.add gv (Dq.tup (SqT.of e1) .nil) (vg_of (fit_tup (L := 210) (n := 0) (ds := []) (fun d h => by simp at h)) (by decide) (by decide) trivial)
          refine fun p2 n2 => ?_
          have s2 := same_upd (o := .dK []) n2
          have e2 := upd_same (H := H_1) (a := p2) (o := .dK [])
          refine (fun (G : ∀ H_2 : Hp, Same H_1 H_2 → H_2 p2 = some (.dK []) → _) => G _ s2 e2) (fun H_2 s2 e2 => ?_)
          have gv := gv.same s2
          have hp := s2 _ _ hp
          have sA := sA.trans s2
          have gv := VGs.add gv (dict0 e2) (vg_of fit_d0 (by decide) (by decide) trivial)
          refine ⟨_, rfl, p, _, rfl, .inl ⟨SqL.of hp, fun p3 n3 => ?_⟩⟩
          have s3 := same_upd (o := .tup (as.map V.ref)) n3
          have e3 := upd_same (H := H_2) (a := p3) (o := .tup (as.map V.ref))
          refine (fun (G : ∀ H_3 : Hp, Same H_2 H_3 → H_3 p3 = some (.tup (as.map V.ref)) → _) => G _ s3 e3) (fun H_3 s3 e3 => ?_)
          have gv := gv.same s3
          have hp := s3 _ _ hp
          have sA := sA.trans s3
          have gv := VGs.add gv (Dq.tup (SqT.of e3) (hDI.same sA)) (vg_of (fit_tup (L := 15000) (n := 3) (fun d hd => (igE d hd).f1)) (by rw [List.length_map]; omega) (by decide) trivial)
          refine ⟨_, rfl, (by show 1 ≤ sizeLine; decide), fun p4 n4 => ?_⟩
          have s4 := same_upd (o := .lst [.ref p]) n4
          have e4 := upd_same (H := H_3) (a := p4) (o := .lst [.ref p])
          refine (fun (G : ∀ H_4 : Hp, Same H_3 H_4 → H_4 p4 = some (.lst [.ref p]) → _) => G _ s4 e4) (fun H_4 s4 e4 => ?_)
          have gv := gv.same s4
          have hp := s4 _ _ hp
          have sA := sA.trans s4
          have gv := VGs.add gv (Dq.lst (SqL.of e4) (.cons (Dq.lst (ds := es.map evD) (SqL.of hp) (hDI.same sA)) .nil)) (vg_of (fit_list (L := 5000000) (n := 4) (ds := [PyData.list (es.map evD)]) (fun d hd => by rw [List.mem_singleton.mp hd]; exact (fit_list (L := 15000) (n := 3) (fun d hd => (igE d hd).f1)).mono (by rw [List.length_map]; omega) (by decide))) (by show 1 * 5000002 + 3 ≤ 10000000; decide) (by decide) (fun d hd => by rw [List.mem_singleton.mp hd]; rfl))
          refine ⟨(by show 1 ≤ sizeLine; decide), fun p5 n5 => ?_⟩
          have s5 := same_upd (o := .lst [.non]) n5
          have e5 := upd_same (H := H_4) (a := p5) (o := .lst [.non])
          refine (fun (G : ∀ H_5 : Hp, Same H_4 H_5 → H_5 p5 = some (.lst [.non]) → _) => G _ s5 e5) (fun H_5 s5 e5 => ?_)
          have gv := gv.same s5
          have hp := s5 _ _ hp
          have sA := sA.trans s5
          have gv := VGs.add gv (Dq.lst (SqL.of e5) (.cons .non .nil)) (vg_of (fit_list (L := 210) (n := 0) (ds := [PyData.none]) (fun d hd => by rw [List.mem_singleton.mp hd]; exact fit_none)) (by decide) (by decide) (fun d hd => by rw [List.mem_singleton.mp hd]; rfl))
          refine ⟨Nat.zero_le _, fun p6 n6 => ?_⟩
          have s6 := same_upd (o := .lst []) n6
          have e6 := upd_same (H := H_5) (a := p6) (o := .lst [])
          refine (fun (G : ∀ H_6 : Hp, Same H_5 H_6 → H_6 p6 = some (.lst []) → _) => G _ s6 e6) (fun H_6 s6 e6 => ?_)
          have gv := gv.same s6
          have hp := s6 _ _ hp
          have sA := sA.trans s6
          refine ⟨(by show 1 ≤ sizeLine; decide), fun p7 n7 => ?_⟩
          have s7 := same_upd (o := .lst [.ref p6]) n7
          have e7 := upd_same (H := H_6) (a := p7) (o := .lst [.ref p6])
          refine (fun (G : ∀ H_7 : Hp, Same H_6 H_7 → H_7 p7 = some (.lst [.ref p6]) → _) => G _ s7 e7) (fun H_7 s7 e7 => ?_)
          have gv := gv.same s7
          have hp := s7 _ _ hp
          have sA := sA.trans s7
          have gv := VGs.add gv (Dq.lst (SqL.of e7) (.cons (Dq.lst (ds := []) (SqL.of (s7 _ _ e6)) .nil) .nil)) (vg_of (fit_list (L := 213) (n := 1) (ds := [PyData.list []]) (fun d hd => by rw [List.mem_singleton.mp hd]; exact (fit_list (L := 210) (n := 0) (ds := []) (fun d h => by simp at h)).mono (by decide) (by decide))) (by decide) (by decide) (fun d hd => by rw [List.mem_singleton.mp hd]; rfl))
          refine ⟨_, rfl, p, _, rfl, SqL.of hp, fun p8 n8 => ?_⟩
          have s8 := same_upd (o := .lst (as.map V.ref).reverse) n8
          have e8 := upd_same (H := H_7) (a := p8) (o := .lst (as.map V.ref).reverse)
          refine (fun (G : ∀ H_8 : Hp, Same H_7 H_8 → H_8 p8 = some (.lst (as.map V.ref).reverse) → _) => G _ s8 e8) (fun H_8 s8 e8 => ?_)
          have gv := gv.same s8
          have hp := s8 _ _ hp
          have sA := sA.trans s8
          rw [← List.map_reverse] at e8
          have gv := VGs.add gv (Dq.lst (SqL.of e8) (dq_evs (tups_rev ((hTI.same s9).same sA)))) (vg_list (fun d hd => by obtain ⟨x, hx, rfl⟩ := List.mem_map.mp hd; exact ig_ev (TI.ok x (List.mem_reverse.mp hx))) (by rw [List.length_map, List.length_reverse]; omega))
          refine ⟨(by show 12 ≤ sizeLine; decide), fun p9 n9 => ?_⟩
          have s9 := same_upd (o := .lst [.non, .int 0, .bl true, .str ("" : String), .str ("down" : String), .ref p1, .ref p2, .ref p3, .ref p4, .ref p5, .ref p7, .ref p8]) n9
          have e9 := upd_same (H := H_8) (a := p9) (o := .lst [.non, .int 0, .bl true, .str ("" : String), .str ("down" : String), .ref p1, .ref p2, .ref p3, .ref p4, .ref p5, .ref p7, .ref p8])
          refine (fun (G : ∀ H_9 : Hp, Same H_8 H_9 → H_9 p9 = some (.lst [.non, .int 0, .bl true, .str ("" : String), .str ("down" : String), .ref p1, .ref p2, .ref p3, .ref p4, .ref p5, .ref p7, .ref p8]) → _) => G _ s9 e9) (fun H_9 s9 e9 => ?_)
          have gv := gv.same s9
          have hp := s9 _ _ hp
          have sA := sA.trans s9
          obtain ⟨vs, hvs, gv⟩ : ∃ vs, H_9 p9 = some (.lst vs) ∧ VGs K H_9 vs := ⟨_, e9, gv⟩
          have TV := T9.same sA
          refine ⟨p9, rfl, ⟨_, SqL.of hvs⟩, for_it (walk_list (xs := vs)) (fun u σ H' => Same H_9 H' ∧ ∃ y14, σ = [some (V.ref sc), some (V.int (i : Int)), some (V.ref r), some (V.int (j : Int)), y4, y5, some (V.ref p), y7, y8, y9, some (V.int (at_ : Int)), some (V.ref S), y12, y13, y14, y15]) ⟨Same.refl _, _, rfl⟩ (fun u σ H' _ z => SqL.of (z.1 _ _ hvs)) (fun u x σ HW HX hu z y => ?_) (fun σ HW z => ?_)⟩
          · obtain ⟨sW, y14, rfl⟩ := z
            obtain ⟨rfl, hx⟩ := y
            obtain ⟨d, hd, hvg⟩ := gv x (List.mem_of_getElem? hx)
            exact ⟨_, rfl, x, d, rfl, hd.same sW, hvg, fun HY sY => ⟨_, rfl, iteF ⟨sW.trans sY, _, rfl⟩⟩⟩
          · obtain ⟨sW, y14, rfl⟩ := z
            have TW := TV.same sW
            obtain ⟨as, hpW, hTW⟩ := id TW.ls
            have hal := hTW.1
            refine ⟨_, rfl, 1, rfl, p, _, rfl, SqL.of hpW, fun A nA => ?_⟩
            have sA := same_upd (o := .lst (cutV (as.map V.ref) (some 1) none)) nA
            have hA := upd_same (H := HW) (a := A) (o := .lst (cutV (as.map V.ref) (some 1) none))
            refine (fun (G : ∀ HX : Hp, Same HW HX → HX A = some (.lst (cutV (as.map V.ref) (some 1) none)) → _) => G _ sA hA) (fun HX sA hA => ?_)
            rw [show cutV (as.map V.ref) (some 1) none = (as.map V.ref).drop 1 from cutDg (k := 1)] at hA
            have hDW := dq_evs (K := K) hTW
            refine ⟨.ref A, .list ((es.map evD).drop 1), rfl, .lst (SqL.of hA) ((hDW.same sA).drop 1), vg_list (fun d hd => igE d (List.mem_of_mem_drop hd)) (by rw [List.length_drop, List.length_map]; omega), fun HY sY => ⟨_, rfl, iteF ?_⟩⟩
            have s2Y := sA.trans sY
            have hpY := s2Y _ _ hpW
            refine ⟨_, rfl, _, rfl, 1, rfl, p, _, rfl, SqL.of hpY, fun B nB => ?_⟩
            have sB := same_upd (o := .lst (cutV (as.map V.ref) none (some 1))) nB
            have hB := upd_same (H := HY) (a := B) (o := .lst (cutV (as.map V.ref) none (some 1)))
            refine (fun (G : ∀ HZ : Hp, Same HY HZ → HZ B = some (.lst (cutV (as.map V.ref) none (some 1))) → _) => G _ sB hB) (fun HZ sB hB => ?_)
            rw [show cutV (as.map V.ref) none (some 1) = (as.map V.ref).take 1 from cutT (k := 1)] at hB
            refine ⟨p, B, _, _, rfl, rfl, sB _ _ hpY, hB, by rw [sizeLine_eq, List.length_map, List.length_take, List.length_map]; omega, fun C nC => ?_⟩
            have sC := same_upd (o := .lst (as.map V.ref ++ (as.map V.ref).take 1)) nC
            have hC := upd_same (H := HZ) (a := C) (o := .lst (as.map V.ref ++ (as.map V.ref).take 1))
            refine (fun (G : ∀ H' : Hp, Same HZ H' → H' C = some (.lst (as.map V.ref ++ (as.map V.ref).take 1)) → _) => G _ sC hC) (fun HC' sC hC => ?_)
            have s2C := (s2Y.trans sB).trans sC
            refine ⟨.ref C, .list (es.map evD ++ (es.map evD).take 1), rfl, .lst (SqL.of hC) (DqAll.append (hDW.same s2C) ((hDW.same s2C).take 1)), vg_list (fun d hd => (List.mem_append.mp hd).elim (igE d) (fun z => igE d (List.mem_of_mem_take z))) (by rw [List.length_append, List.length_take, List.length_map]; omega), fun HQ sQ => ⟨_, rfl, iteF ?_⟩⟩
            have TQ := TW.same (s2C.trans sQ)
            refine ⟨_, rfl, p, es, rfl, TQ.ls, TQ.valid, TQ.ok, by omega, fun HR oR => ⟨_, rfl, iteF ?_⟩⟩
            refine ⟨fun b o h n => oR b o (TQ.off b o h n) (ne_of_none h TQ.fr), ?_, _, _, _, _, _, _, _, _, _, _, _, _, _, rfl⟩
            obtain ⟨a1, a2, a3, a4, a5, a6, a7, a8, a9⟩ := TQ.reel
            exact ⟨a1, a2, a3, oR _ _ a4 TQ.pr.symm, a5, a6, a7, a8, by omega⟩
      · obtain ⟨o3, R3, y3, y4, y5, y6, y7, y8, y9, y10, y11, y12, y13, y14, y15, rfl⟩ := p
        exact ⟨s1.trans (Same.off s2 nr o3), _, _, _, _, _, _, _, _, _, _, _, _, _, _, _, rfl⟩
    · obtain ⟨s1, y1, y2, y3, y4, y5, y6, y7, y8, y9, y10, y11, y12, y13, y14, y15, rfl⟩ := p
      refine ⟨rfl, fun H2 s2 => ⟨_, rfl, iteF ?_⟩⟩
      refine ⟨Nat.zero_le _, fun A nA => ?_⟩
      have hA := upd_same (H := H2) (a := A) (o := .lst [])
      refine ⟨.ref A, .list [], rfl, .lst (SqL.of hA) .nil, fun H3 s3 => ?_⟩
      rw [show recOk (.list []) = true from rfl]
      refine ⟨true, true, rfl, rfl, _, rfl, iteT ?_⟩
      refine ⟨(by show 2 ≤ sizeLine; decide), fun T nT => ?_⟩
      have hT := upd_same (H := H3) (a := T) (o := .tup [.int 0, .str ("up" : String)])
      refine (fun (G : ∀ H4 : Hp, H4 T = some (.tup [.int 0, .str ("up" : String)]) → _) => G _ hT) (fun H4 hT => ?_)
      refine ⟨(by show 1 ≤ sizeLine; decide), fun B nB => ?_⟩
      have sB := same_upd (o := .lst [.ref T]) nB
      refine ⟨.ref B, .list [.tuple [.int 0, .str ("up" : String)]], rfl, .lst (SqL.of upd_same) (.cons (.tup (SqT.of (sB _ _ hT)) (.cons (.int 0) (.cons (.str _) .nil))) .nil), fun H5 s5 => ?_⟩
      rw [show ordOk (.list [.tuple [.int 0, .str ("up" : String)]]) = false by decide +kernel]
      exact ⟨false, false, rfl, rfl, q _⟩
end
end K05

set_option Elab.async false
set_option linter.all false
set_option maxRecDepth 100000
set_option maxHeartbeats 8000000
namespace K05
open PySem PySem.Spec PyProof.Rows L2 Gd Rm
theorem at_mk {K : PySem.W.Frag} {h : Heap} {mg : Str → Option Value} {x : Str} {st : Stmt} {ps : List Str} {f : Addr} {od an : Option Addr} {sl : Array (Option Value)} {oc kV dc pm cd ct : Value} (X : K.In h) (G : h.Ns mainGlobals mg)
    (a : PySem.W.nsIn K mainGlobals x = some (some (.ref f))) (l : K.lookup f = some ⟨oc, od, .func (PySem.W.fnOf x x (defArgs st) (defBody st) (defScope st) .none kV dc pm an cd ct), sl⟩) (c : PySem.W.codeIn K cd x = true) (k : PySem.W.keepIn K (.ref f) = true)
    (hb : ∀ (kV doc pm : Value) (an : Option Addr) (cdv ct : Value) (us : List Value), us.length = ps.length → bindArgs (PySem.W.fnOf x x (defArgs st) (defBody st) (defScope st) .none kV doc pm an cdv ct) ⟨us, []⟩ = pure (ps.zip us)) : At K mg x st ps :=
  ⟨_, _, fun_mk l c k, PySem.W.mg_of X G a, (fun_mk l c k).binds hb⟩
theorem all_mk {l : PySem.W.OpenLaw} {w : World} {K : PySem.W.Frag} {h : Heap} {mg : Str → Option Value} {fa : Addr} (X : K.In h) (G : h.Ns mainGlobals mg) (hfa : mg "law" = some (.ref fa))
    {f0 : Addr} {od0 an0 : Option Addr} {sl0 : Array (Option Value)} {oc0 kV0 dc0 pm0 cd0 ct0 : Value}
    {f1 : Addr} {od1 an1 : Option Addr} {sl1 : Array (Option Value)} {oc1 kV1 dc1 pm1 cd1 ct1 : Value}
    {f2 : Addr} {od2 an2 : Option Addr} {sl2 : Array (Option Value)} {oc2 kV2 dc2 pm2 cd2 ct2 : Value}
    {f3 : Addr} {od3 an3 : Option Addr} {sl3 : Array (Option Value)} {oc3 kV3 dc3 pm3 cd3 ct3 : Value}
    {f4 : Addr} {od4 an4 : Option Addr} {sl4 : Array (Option Value)} {oc4 kV4 dc4 pm4 cd4 ct4 : Value}
    {f5 : Addr} {od5 an5 : Option Addr} {sl5 : Array (Option Value)} {oc5 kV5 dc5 pm5 cd5 ct5 : Value}
    {f6 : Addr} {od6 an6 : Option Addr} {sl6 : Array (Option Value)} {oc6 kV6 dc6 pm6 cd6 ct6 : Value}
    {f7 : Addr} {od7 an7 : Option Addr} {sl7 : Array (Option Value)} {oc7 kV7 dc7 pm7 cd7 ct7 : Value}
    {T7 : Addr} {td7 : Option Addr} {ts7 : Array (Option Value)} {tn7 : Nat}
    {f8 : Addr} {od8 an8 : Option Addr} {sl8 : Array (Option Value)} {oc8 kV8 dc8 pm8 cd8 ct8 : Value}
    {T8 : Addr} {td8 : Option Addr} {ts8 : Array (Option Value)} {tn8 : Nat}
    {f9 : Addr} {od9 an9 : Option Addr} {sl9 : Array (Option Value)} {oc9 kV9 dc9 pm9 cd9 ct9 : Value}
    {f10 : Addr} {od10 an10 : Option Addr} {sl10 : Array (Option Value)} {oc10 kV10 dc10 pm10 cd10 ct10 : Value}
    {f11 : Addr} {od11 an11 : Option Addr} {sl11 : Array (Option Value)} {oc11 kV11 dc11 pm11 cd11 ct11 : Value}
    {f12 : Addr} {od12 an12 : Option Addr} {sl12 : Array (Option Value)} {oc12 kV12 dc12 pm12 cd12 ct12 : Value}
    {f13 : Addr} {od13 an13 : Option Addr} {sl13 : Array (Option Value)} {oc13 kV13 dc13 pm13 cd13 ct13 : Value}
    {f14 : Addr} {od14 an14 : Option Addr} {sl14 : Array (Option Value)} {oc14 kV14 dc14 pm14 cd14 ct14 : Value}
    {f15 : Addr} {od15 an15 : Option Addr} {sl15 : Array (Option Value)} {oc15 kV15 dc15 pm15 cd15 ct15 : Value}
    {f16 : Addr} {od16 an16 : Option Addr} {sl16 : Array (Option Value)} {oc16 kV16 dc16 pm16 cd16 ct16 : Value}
    {f17 : Addr} {od17 an17 : Option Addr} {sl17 : Array (Option Value)} {oc17 kV17 dc17 pm17 cd17 ct17 : Value}
    {f18 : Addr} {od18 an18 : Option Addr} {sl18 : Array (Option Value)} {oc18 kV18 dc18 pm18 cd18 ct18 : Value}
    {f19 : Addr} {od19 an19 : Option Addr} {sl19 : Array (Option Value)} {oc19 kV19 dc19 pm19 cd19 ct19 : Value}
    {f20 : Addr} {od20 an20 : Option Addr} {sl20 : Array (Option Value)} {oc20 kV20 dc20 pm20 cd20 ct20 : Value}
    {f21 : Addr} {od21 an21 : Option Addr} {sl21 : Array (Option Value)} {oc21 kV21 dc21 pm21 cd21 ct21 : Value}
    {f22 : Addr} {od22 an22 : Option Addr} {sl22 : Array (Option Value)} {oc22 kV22 dc22 pm22 cd22 ct22 : Value}
    {f23 : Addr} {od23 an23 : Option Addr} {sl23 : Array (Option Value)} {oc23 kV23 dc23 pm23 cd23 ct23 : Value}
    {tk0 : Tok}
    {x0C x0f x0N x0cc x0cda : Addr} {x0nm x0q : Str} {x0bs x0bm x0sub : List Value} {x0sn : List Str} {x0ab : Bool} {x0col : Option Bool} {x0dd : Option Addr} {x0m0 x0m1 x0m2 x0m3 x0m5 : Option Value}
    {x0oc x0doc x0pm x0ct x0cl x0ccl : Value} {x0od x0an x0cld x0cdd : Option Addr} {x0osl x0csl x0ccs : Array (Option Value)} {x0vs : Array Value} {x0file : Str} {x0tf : Tok}
    {x1C x1f x1N x1cc x1cda : Addr} {x1nm x1q : Str} {x1bs x1bm x1sub : List Value} {x1sn : List Str} {x1ab : Bool} {x1col : Option Bool} {x1dd : Option Addr} {x1m0 x1m1 x1m2 x1m3 x1m5 : Option Value}
    {x1oc x1doc x1pm x1ct x1cl x1ccl : Value} {x1od x1an x1cld x1cdd : Option Addr} {x1osl x1csl x1ccs : Array (Option Value)} {x1vs : Array Value} {x1file : Str} {x1tf : Tok}
    (a0 : PySem.W.nsIn K mainGlobals "is_an_integer" = some (some (.ref f0))) (l0 : K.lookup f0 = some ⟨oc0, od0, .func (PySem.W.fnOf "is_an_integer" "is_an_integer" (defArgs s_is_an_integer) (defBody s_is_an_integer) (defScope s_is_an_integer) .none kV0 dc0 pm0 an0 cd0 ct0), sl0⟩) (c0 : PySem.W.codeIn K cd0 "is_an_integer" = true) (k0 : PySem.W.keepIn K (.ref f0) = true)
    (a1 : PySem.W.nsIn K mainGlobals "is_step" = some (some (.ref f1))) (l1 : K.lookup f1 = some ⟨oc1, od1, .func (PySem.W.fnOf "is_step" "is_step" (defArgs s_is_step) (defBody s_is_step) (defScope s_is_step) .none kV1 dc1 pm1 an1 cd1 ct1), sl1⟩) (c1 : PySem.W.codeIn K cd1 "is_step" = true) (k1 : PySem.W.keepIn K (.ref f1) = true)
    (a2 : PySem.W.nsIn K mainGlobals "is_event" = some (some (.ref f2))) (l2 : K.lookup f2 = some ⟨oc2, od2, .func (PySem.W.fnOf "is_event" "is_event" (defArgs s_is_event) (defBody s_is_event) (defScope s_is_event) .none kV2 dc2 pm2 an2 cd2 ct2), sl2⟩) (c2 : PySem.W.codeIn K cd2 "is_event" = true) (k2 : PySem.W.keepIn K (.ref f2) = true)
    (a3 : PySem.W.nsIn K mainGlobals "is_short_list" = some (some (.ref f3))) (l3 : K.lookup f3 = some ⟨oc3, od3, .func (PySem.W.fnOf "is_short_list" "is_short_list" (defArgs s_is_short_list) (defBody s_is_short_list) (defScope s_is_short_list) .none kV3 dc3 pm3 an3 cd3 ct3), sl3⟩) (c3 : PySem.W.codeIn K cd3 "is_short_list" = true) (k3 : PySem.W.keepIn K (.ref f3) = true)
    (a4 : PySem.W.nsIn K mainGlobals "takes_turn" = some (some (.ref f4))) (l4 : K.lookup f4 = some ⟨oc4, od4, .func (PySem.W.fnOf "takes_turn" "takes_turn" (defArgs s_takes_turn) (defBody s_takes_turn) (defScope s_takes_turn) .none kV4 dc4 pm4 an4 cd4 ct4), sl4⟩) (c4 : PySem.W.codeIn K cd4 "takes_turn" = true) (k4 : PySem.W.keepIn K (.ref f4) = true)
    (a5 : PySem.W.nsIn K mainGlobals "can_follow" = some (some (.ref f5))) (l5 : K.lookup f5 = some ⟨oc5, od5, .func (PySem.W.fnOf "can_follow" "can_follow" (defArgs s_can_follow) (defBody s_can_follow) (defScope s_can_follow) .none kV5 dc5 pm5 an5 cd5 ct5), sl5⟩) (c5 : PySem.W.codeIn K cd5 "can_follow" = true) (k5 : PySem.W.keepIn K (.ref f5) = true)
    (a6 : PySem.W.nsIn K mainGlobals "is_below" = some (some (.ref f6))) (l6 : K.lookup f6 = some ⟨oc6, od6, .func (PySem.W.fnOf "is_below" "is_below" (defArgs s_is_below) (defBody s_is_below) (defScope s_is_below) .none kV6 dc6 pm6 an6 cd6 ct6), sl6⟩) (c6 : PySem.W.codeIn K cd6 "is_below" = true) (k6 : PySem.W.keepIn K (.ref f6) = true)
    (a7 : PySem.W.nsIn K mainGlobals "check_record" = some (some (.ref f7))) (l7 : K.lookup f7 = some ⟨oc7, od7, .func (PySem.W.fnOf "check_record" "check_record" (defArgs s_check_record) (defBody s_check_record) (defScope s_check_record) (.ref T7) kV7 dc7 pm7 an7 cd7 ct7), sl7⟩) (c7 : PySem.W.codeIn K cd7 "check_record" = true) (k7 : PySem.W.keepIn K (.ref f7) = true) (u_7 : K.lookup T7 = some ⟨.type "tuple", td7, .seq #[.none] tn7, ts7⟩)
    (a8 : PySem.W.nsIn K mainGlobals "check_order" = some (some (.ref f8))) (l8 : K.lookup f8 = some ⟨oc8, od8, .func (PySem.W.fnOf "check_order" "check_order" (defArgs s_check_order) (defBody s_check_order) (defScope s_check_order) (.ref T8) kV8 dc8 pm8 an8 cd8 ct8), sl8⟩) (c8 : PySem.W.codeIn K cd8 "check_order" = true) (k8 : PySem.W.keepIn K (.ref f8) = true) (u_8 : K.lookup T8 = some ⟨.type "tuple", td8, .seq #[.none] tn8, ts8⟩)
    (a9 : PySem.W.nsIn K mainGlobals "is_record" = some (some (.ref f9))) (l9 : K.lookup f9 = some ⟨oc9, od9, .func (PySem.W.fnOf "is_record" "is_record" (defArgs s_is_record) (defBody s_is_record) (defScope s_is_record) .none kV9 dc9 pm9 an9 cd9 ct9), sl9⟩) (c9 : PySem.W.codeIn K cd9 "is_record" = true) (k9 : PySem.W.keepIn K (.ref f9) = true)
    (a10 : PySem.W.nsIn K mainGlobals "is_order" = some (some (.ref f10))) (l10 : K.lookup f10 = some ⟨oc10, od10, .func (PySem.W.fnOf "is_order" "is_order" (defArgs s_is_order) (defBody s_is_order) (defScope s_is_order) .none kV10 dc10 pm10 an10 cd10 ct10), sl10⟩) (c10 : PySem.W.codeIn K cd10 "is_order" = true) (k10 : PySem.W.keepIn K (.ref f10) = true)
    (a11 : PySem.W.nsIn K mainGlobals "_law_reel" = some (some (.ref f11))) (l11 : K.lookup f11 = some ⟨oc11, od11, .func (PySem.W.fnOf "_law_reel" "_law_reel" (defArgs s__law_reel) (defBody s__law_reel) (defScope s__law_reel) .none kV11 dc11 pm11 an11 cd11 ct11), sl11⟩) (c11 : PySem.W.codeIn K cd11 "_law_reel" = true) (k11 : PySem.W.keepIn K (.ref f11) = true)
    (a12 : PySem.W.nsIn K mainGlobals "_law_spin" = some (some (.ref f12))) (l12 : K.lookup f12 = some ⟨oc12, od12, .func (PySem.W.fnOf "_law_spin" "_law_spin" (defArgs s__law_spin) (defBody s__law_spin) (defScope s__law_spin) .none kV12 dc12 pm12 an12 cd12 ct12), sl12⟩) (c12 : PySem.W.codeIn K cd12 "_law_spin" = true) (k12 : PySem.W.keepIn K (.ref f12) = true)
    (a13 : PySem.W.nsIn K mainGlobals "_law_record" = some (some (.ref f13))) (l13 : K.lookup f13 = some ⟨oc13, od13, .func (PySem.W.fnOf "_law_record" "_law_record" (defArgs s__law_record) (defBody s__law_record) (defScope s__law_record) .none kV13 dc13 pm13 an13 cd13 ct13), sl13⟩) (c13 : PySem.W.codeIn K cd13 "_law_record" = true) (k13 : PySem.W.keepIn K (.ref f13) = true)
    (a14 : PySem.W.nsIn K mainGlobals "_law_is_number" = some (some (.ref f14))) (l14 : K.lookup f14 = some ⟨oc14, od14, .func (PySem.W.fnOf "_law_is_number" "_law_is_number" (defArgs s__law_is_number) (defBody s__law_is_number) (defScope s__law_is_number) .none kV14 dc14 pm14 an14 cd14 ct14), sl14⟩) (c14 : PySem.W.codeIn K cd14 "_law_is_number" = true) (k14 : PySem.W.keepIn K (.ref f14) = true)
    (a15 : PySem.W.nsIn K mainGlobals "_law_record_fault" = some (some (.ref f15))) (l15 : K.lookup f15 = some ⟨oc15, od15, .func (PySem.W.fnOf "_law_record_fault" "_law_record_fault" (defArgs s__law_record_fault) (defBody s__law_record_fault) (defScope s__law_record_fault) .none kV15 dc15 pm15 an15 cd15 ct15), sl15⟩) (c15 : PySem.W.codeIn K cd15 "_law_record_fault" = true) (k15 : PySem.W.keepIn K (.ref f15) = true)
    (a16 : PySem.W.nsIn K mainGlobals "_law_order_fault" = some (some (.ref f16))) (l16 : K.lookup f16 = some ⟨oc16, od16, .func (PySem.W.fnOf "_law_order_fault" "_law_order_fault" (defArgs s__law_order_fault) (defBody s__law_order_fault) (defScope s__law_order_fault) .none kV16 dc16 pm16 an16 cd16 ct16), sl16⟩) (c16 : PySem.W.codeIn K cd16 "_law_order_fault" = true) (k16 : PySem.W.keepIn K (.ref f16) = true)
    (a17 : PySem.W.nsIn K mainGlobals "_law_odd_events" = some (some (.ref f17))) (l17 : K.lookup f17 = some ⟨oc17, od17, .func (PySem.W.fnOf "_law_odd_events" "_law_odd_events" (defArgs s__law_odd_events) (defBody s__law_odd_events) (defScope s__law_odd_events) .none kV17 dc17 pm17 an17 cd17 ct17), sl17⟩) (c17 : PySem.W.codeIn K cd17 "_law_odd_events" = true) (k17 : PySem.W.keepIn K (.ref f17) = true)
    (a18 : PySem.W.nsIn K mainGlobals "_law_next_event" = some (some (.ref f18))) (l18 : K.lookup f18 = some ⟨oc18, od18, .func (PySem.W.fnOf "_law_next_event" "_law_next_event" (defArgs s__law_next_event) (defBody s__law_next_event) (defScope s__law_next_event) .none kV18 dc18 pm18 an18 cd18 ct18), sl18⟩) (c18 : PySem.W.codeIn K cd18 "_law_next_event" = true) (k18 : PySem.W.keepIn K (.ref f18) = true)
    (a19 : PySem.W.nsIn K mainGlobals "_law_told_right" = some (some (.ref f19))) (l19 : K.lookup f19 = some ⟨oc19, od19, .func (PySem.W.fnOf "_law_told_right" "_law_told_right" (defArgs s__law_told_right) (defBody s__law_told_right) (defScope s__law_told_right) .none kV19 dc19 pm19 an19 cd19 ct19), sl19⟩) (c19 : PySem.W.codeIn K cd19 "_law_told_right" = true) (k19 : PySem.W.keepIn K (.ref f19) = true)
    (a20 : PySem.W.nsIn K mainGlobals "_law_steps" = some (some (.ref f20))) (l20 : K.lookup f20 = some ⟨oc20, od20, .func (PySem.W.fnOf "_law_steps" "_law_steps" (defArgs s__law_steps) (defBody s__law_steps) (defScope s__law_steps) .none kV20 dc20 pm20 an20 cd20 ct20), sl20⟩) (c20 : PySem.W.codeIn K cd20 "_law_steps" = true) (k20 : PySem.W.keepIn K (.ref f20) = true)
    (a21 : PySem.W.nsIn K mainGlobals "_law_sizes_right" = some (some (.ref f21))) (l21 : K.lookup f21 = some ⟨oc21, od21, .func (PySem.W.fnOf "_law_sizes_right" "_law_sizes_right" (defArgs s__law_sizes_right) (defBody s__law_sizes_right) (defScope s__law_sizes_right) .none kV21 dc21 pm21 an21 cd21 ct21), sl21⟩) (c21 : PySem.W.codeIn K cd21 "_law_sizes_right" = true) (k21 : PySem.W.keepIn K (.ref f21) = true)
    (a22 : PySem.W.nsIn K mainGlobals "_law_changed_right" = some (some (.ref f22))) (l22 : K.lookup f22 = some ⟨oc22, od22, .func (PySem.W.fnOf "_law_changed_right" "_law_changed_right" (defArgs s__law_changed_right) (defBody s__law_changed_right) (defScope s__law_changed_right) .none kV22 dc22 pm22 an22 cd22 ct22), sl22⟩) (c22 : PySem.W.codeIn K cd22 "_law_changed_right" = true) (k22 : PySem.W.keepIn K (.ref f22) = true)
    (a23 : PySem.W.nsIn K mainGlobals "law" = some (some (.ref f23))) (l23 : K.lookup f23 = some ⟨oc23, od23, .func (PySem.W.fnOf "law" "law" (defArgs s_law) (defBody s_law) (defScope s_law) .none kV23 dc23 pm23 an23 cd23 ct23), sl23⟩) (c23 : PySem.W.codeIn K cd23 "law" = true) (k23 : PySem.W.keepIn K (.ref f23) = true)
    (v0 : PySem.W.nsIn K mainGlobals "MOST_EVENTS" = some (some (.int 400 tk0)))
    (z0 : PySem.W.nsIn K mainGlobals "len" = some none)
    (z1 : PySem.W.nsIn K mainGlobals "abs" = some none)
    (z2 : PySem.W.nsIn K mainGlobals "max" = some none)
    (z3 : PySem.W.nsIn K mainGlobals "repr" = some none)
    (z4 : PySem.W.nsIn K mainGlobals "sorted" = some none)
    (z5 : PySem.W.nsIn K mainGlobals "isinstance" = some none)
    (z6 : PySem.W.nsIn K mainGlobals "all" = some none)
    (z7 : PySem.W.nsIn K mainGlobals "list" = some none)
    (z8 : PySem.W.nsIn K mainGlobals "tuple" = some none)
    (z9 : PySem.W.nsIn K mainGlobals "int" = some none)
    (z10 : PySem.W.nsIn K mainGlobals "bool" = some none)
    (z11 : PySem.W.nsIn K mainGlobals "str" = some none)
    (z12 : PySem.W.nsIn K mainGlobals "range" = some none)
    (z13 : PySem.W.nsIn K mainGlobals "enumerate" = some none)
    (z14 : PySem.W.nsIn K mainGlobals "zip" = some none)
    (z15 : PySem.W.nsIn K mainGlobals "min" = some none)
    (x0hg : PySem.W.nsIn K mainGlobals "InvalidRecord" = some (some (.ref x0C)))
    (x0hL : K.lookup x0C = some (excClassObj x0nm x0q x0C x0N x0bs x0bm true x0sn x0sub x0ab x0col x0dd x0m0 x0m1 x0m2 x0m3 x0m5 "ValueError.__new__"))
    (x0hve : PySem.HandSPX.refsVE x0bm = true)
    (x0hsa : PySem.W.findIn K (.ref x0C) "__setattr__" = some (some (.builtin "object.__setattr__")))
    (x0hnN : PySem.W.findIn K (.ref x0C) "index" = some none)
    (x0hiC : PySem.W.findIn K (.ref x0C) "__init__" = some (some (.ref x0f)))
    (x0htC : PySem.W.typeIn K (.ref x0f) = some (.type "function"))
    (x0hkC : PySem.W.keepIn K (.ref x0C) = true)
    (x0heC : PySem.W.subIn K (.ref x0C) (.type "BaseException") = some true)
    (x0hvC : PySem.W.subIn K (.ref x0C) (.type "ValueError") = some true)
    (x0hmC : PySem.W.mroIn K x0C (.ref x0C) = some true)
    (x0hyC : PySem.W.typeIn K (.ref x0C) = some (.type "type"))
    (x0hsu : PySem.W.ks_superIn K x0C x0C "__init__" = some (some (.builtin "ValueError.__init__")))
    (x0han_ : PySem.W.nsIn K cStatics "thirdparty.any" = some none)
    (x0hei : PySem.W.excInitIn K x0C [.type "ValueError", .type "Exception", .type "BaseException", .type "object"] "ValueError.__new__" = true)
    (x0hsp : PySem.W.nsIn K mainGlobals "super" = some none)
    (x0htp : (l.prog.main.scope.names.lookup ("super" : Str)).isSome = false)
    (x0hl : K.lookup x0f = some ⟨x0oc, x0od, .func (PySem.W.ksFn "__init__" "InvalidRecord.__init__" (PySem.Oxi.iA ⟨6, 17, 6, 21⟩ ⟨6, 23, 6, 28⟩) (PySem.Oxi.iB "not a record: index " (fun i => ([⟨7, 8, 7, 13⟩, ⟨7, 8, 7, 15⟩, ⟨7, 8, 7, 24⟩, ⟨7, 27, 7, 47⟩, ⟨7, 48, 7, 53⟩, ⟨7, 47, 7, 54⟩, ⟨7, 25, 7, 55⟩, ⟨7, 8, 7, 56⟩, ⟨7, 8, 7, 56⟩, ⟨8, 8, 8, 12⟩, ⟨8, 8, 8, 18⟩, ⟨8, 21, 8, 26⟩, ⟨8, 8, 8, 26⟩] : List Pos).getD i ⟨0, 0, 0, 0⟩)) PySem.Oxi.iS .none .none x0doc x0pm x0an (.ref x0cda) x0ct x0cc), x0osl⟩)
    (x0hco : PySem.W.codeIn K (.ref x0cda) "InvalidRecord.__init__" = true)
    (x0hce : K.lookup x0cc = some ⟨x0cl, x0cld, .cell (some (.ref x0C)), x0csl⟩)
    (x0hcd : K.lookup x0cda = some ⟨x0ccl, x0cdd, .fields x0vs, x0ccs⟩)
    (x0hv2 : x0vs[2]? = some (.str x0file x0tf))
    (x0hfi : ((l.prog.main.file : Str) == x0file) = true)
    (x0hxm : PySem.W.exmOne K (.ref x0C) (.ref x0C) = some true)
    (x1hg : PySem.W.nsIn K mainGlobals "InvalidOrder" = some (some (.ref x1C)))
    (x1hL : K.lookup x1C = some (excClassObj x1nm x1q x1C x1N x1bs x1bm true x1sn x1sub x1ab x1col x1dd x1m0 x1m1 x1m2 x1m3 x1m5 "ValueError.__new__"))
    (x1hve : PySem.HandSPX.refsVE x1bm = true)
    (x1hsa : PySem.W.findIn K (.ref x1C) "__setattr__" = some (some (.builtin "object.__setattr__")))
    (x1hnN : PySem.W.findIn K (.ref x1C) "index" = some none)
    (x1hiC : PySem.W.findIn K (.ref x1C) "__init__" = some (some (.ref x1f)))
    (x1htC : PySem.W.typeIn K (.ref x1f) = some (.type "function"))
    (x1hkC : PySem.W.keepIn K (.ref x1C) = true)
    (x1heC : PySem.W.subIn K (.ref x1C) (.type "BaseException") = some true)
    (x1hvC : PySem.W.subIn K (.ref x1C) (.type "ValueError") = some true)
    (x1hmC : PySem.W.mroIn K x1C (.ref x1C) = some true)
    (x1hyC : PySem.W.typeIn K (.ref x1C) = some (.type "type"))
    (x1hsu : PySem.W.ks_superIn K x1C x1C "__init__" = some (some (.builtin "ValueError.__init__")))
    (x1han_ : PySem.W.nsIn K cStatics "thirdparty.any" = some none)
    (x1hei : PySem.W.excInitIn K x1C [.type "ValueError", .type "Exception", .type "BaseException", .type "object"] "ValueError.__new__" = true)
    (x1hsp : PySem.W.nsIn K mainGlobals "super" = some none)
    (x1htp : (l.prog.main.scope.names.lookup ("super" : Str)).isSome = false)
    (x1hl : K.lookup x1f = some ⟨x1oc, x1od, .func (PySem.W.ksFn "__init__" "InvalidOrder.__init__" (PySem.Oxi.iA ⟨11, 17, 11, 21⟩ ⟨11, 23, 11, 28⟩) (PySem.Oxi.iB "not an order: index " (fun i => ([⟨12, 8, 12, 13⟩, ⟨12, 8, 12, 15⟩, ⟨12, 8, 12, 24⟩, ⟨12, 27, 12, 47⟩, ⟨12, 48, 12, 53⟩, ⟨12, 47, 12, 54⟩, ⟨12, 25, 12, 55⟩, ⟨12, 8, 12, 56⟩, ⟨12, 8, 12, 56⟩, ⟨13, 8, 13, 12⟩, ⟨13, 8, 13, 18⟩, ⟨13, 21, 13, 26⟩, ⟨13, 8, 13, 26⟩] : List Pos).getD i ⟨0, 0, 0, 0⟩)) PySem.Oxi.iS .none .none x1doc x1pm x1an (.ref x1cda) x1ct x1cc), x1osl⟩)
    (x1hco : PySem.W.codeIn K (.ref x1cda) "InvalidOrder.__init__" = true)
    (x1hce : K.lookup x1cc = some ⟨x1cl, x1cld, .cell (some (.ref x1C)), x1csl⟩)
    (x1hcd : K.lookup x1cda = some ⟨x1ccl, x1cdd, .fields x1vs, x1ccs⟩)
    (x1hv2 : x1vs[2]? = some (.str x1file x1tf))
    (x1hfi : ((l.prog.main.file : Str) == x1file) = true)
    (x1hxm : PySem.W.exmOne K (.ref x1C) (.ref x1C) = some true) :
    ∃ fd : FuncData, (∀ (s : Shared) (u : Value), BindsTo s fd ⟨[u], []⟩ [("_law_script", u)]) ∧ ∀ base : Heap, K.In base → base.Ns mainGlobals mg → SysAt base → FnG l.prog w K mg base 10 fa fd ["_law_script"] (spLaw K) := by
  have e := hfa.symm.trans (PySem.W.mg_of X G a23)
  cases e
  have A_is_an_integer : At K mg "is_an_integer" s_is_an_integer ["value"] := at_mk X G a0 l0 c0 k0 fun _ _ _ _ _ _ us hl => match us, hl with | [_], _ => rfl
  have A_is_step : At K mg "is_step" s_is_step ["value"] := at_mk X G a1 l1 c1 k1 fun _ _ _ _ _ _ us hl => match us, hl with | [_], _ => rfl
  have A_is_event : At K mg "is_event" s_is_event ["value"] := at_mk X G a2 l2 c2 k2 fun _ _ _ _ _ _ us hl => match us, hl with | [_], _ => rfl
  have A_is_short_list : At K mg "is_short_list" s_is_short_list ["value"] := at_mk X G a3 l3 c3 k3 fun _ _ _ _ _ _ us hl => match us, hl with | [_], _ => rfl
  have A_takes_turn : At K mg "takes_turn" s_takes_turn ["held", "key", "way"] := at_mk X G a4 l4 c4 k4 fun _ _ _ _ _ _ us hl => match us, hl with | [_, _, _], _ => rfl
  have A_can_follow : At K mg "can_follow" s_can_follow ["event", "last", "held"] := at_mk X G a5 l5 c5 k5 fun _ _ _ _ _ _ us hl => match us, hl with | [_, _, _], _ => rfl
  have A_is_below : At K mg "is_below" s_is_below ["key", "many"] := at_mk X G a6 l6 c6 k6 fun _ _ _ _ _ _ us hl => match us, hl with | [_, _], _ => rfl
  have A_check_record : AtX K mg "check_record" s_check_record ["value", "many"] [.none] := atX_less X G a7 l7 c7 k7 u_7 fun _ _ _ _ _ _ _ us its hl hi => match us, its, hl, hi with | [_], [_], _, _ => ⟨_, rfl, rfl⟩
  have A_check_order : AtX K mg "check_order" s_check_order ["value", "many"] [.none] := atX_less X G a8 l8 c8 k8 u_8 fun _ _ _ _ _ _ _ us its hl hi => match us, its, hl, hi with | [_], [_], _, _ => ⟨_, rfl, rfl⟩
  have A_is_record : At K mg "is_record" s_is_record ["value"] := at_mk X G a9 l9 c9 k9 fun _ _ _ _ _ _ us hl => match us, hl with | [_], _ => rfl
  have A_is_order : At K mg "is_order" s_is_order ["value"] := at_mk X G a10 l10 c10 k10 fun _ _ _ _ _ _ us hl => match us, hl with | [_], _ => rfl
  have A__law_reel : At K mg "_law_reel" s__law_reel ["_law_script", "_law_index"] := at_mk X G a11 l11 c11 k11 fun _ _ _ _ _ _ us hl => match us, hl with | [_, _], _ => rfl
  have A__law_spin : At K mg "_law_spin" s__law_spin ["_law_reel_here", "_law_size"] := at_mk X G a12 l12 c12 k12 fun _ _ _ _ _ _ us hl => match us, hl with | [_, _], _ => rfl
  have A__law_record : At K mg "_law_record" s__law_record ["_law_reel_here", "_law_keys", "_law_size", "_law_gaps"] := at_mk X G a13 l13 c13 k13 fun _ _ _ _ _ _ us hl => match us, hl with | [_, _, _, _], _ => rfl
  have A__law_is_number : At K mg "_law_is_number" s__law_is_number ["_law_value", "_law_least", "_law_most"] := at_mk X G a14 l14 c14 k14 fun _ _ _ _ _ _ us hl => match us, hl with | [_, _, _], _ => rfl
  have A__law_record_fault : At K mg "_law_record_fault" s__law_record_fault ["_law_value", "_law_keys"] := at_mk X G a15 l15 c15 k15 fun _ _ _ _ _ _ us hl => match us, hl with | [_, _], _ => rfl
  have A__law_order_fault : At K mg "_law_order_fault" s__law_order_fault ["_law_value", "_law_keys"] := at_mk X G a16 l16 c16 k16 fun _ _ _ _ _ _ us hl => match us, hl with | [_, _], _ => rfl
  have A__law_odd_events : At K mg "_law_odd_events" s__law_odd_events ["_law_tick", "_law_key", "_law_way"] := at_mk X G a17 l17 c17 k17 fun _ _ _ _ _ _ us hl => match us, hl with | [_, _, _], _ => rfl
  have A__law_next_event : At K mg "_law_next_event" s__law_next_event ["_law_record_here", "_law_at", "_law_key"] := at_mk X G a18 l18 c18 k18 fun _ _ _ _ _ _ us hl => match us, hl with | [_, _, _], _ => rfl
  have A__law_told_right : At K mg "_law_told_right" s__law_told_right ["_law_value"] := at_mk X G a19 l19 c19 k19 fun _ _ _ _ _ _ us hl => match us, hl with | [_], _ => rfl
  have A__law_steps : At K mg "_law_steps" s__law_steps ["_law_value"] := at_mk X G a20 l20 c20 k20 fun _ _ _ _ _ _ us hl => match us, hl with | [_], _ => rfl
  have A__law_sizes_right : At K mg "_law_sizes_right" s__law_sizes_right [] := at_mk X G a21 l21 c21 k21 fun _ _ _ _ _ _ us hl => match us, hl with | [], _ => rfl
  have A__law_changed_right : At K mg "_law_changed_right" s__law_changed_right ["_law_record_here"] := at_mk X G a22 l22 c22 k22 fun _ _ _ _ _ _ us hl => match us, hl with | [_], _ => rfl
  have A_law : At K mg "law" s_law ["_law_script"] := at_mk X G a23 l23 c23 k23 fun _ _ _ _ _ _ us hl => match us, hl with | [_], _ => rfl
  have m_MOST_EVENTS := PySem.W.mg_of X G v0
  have bt : Bt mg := ⟨PySem.W.mg_none_of X G z0, PySem.W.mg_none_of X G z1, PySem.W.mg_none_of X G z2, PySem.W.mg_none_of X G z3, PySem.W.mg_none_of X G z4, PySem.W.mg_none_of X G z5, PySem.W.mg_none_of X G z6, PySem.W.mg_none_of X G z7, PySem.W.mg_none_of X G z8, PySem.W.mg_none_of X G z9, PySem.W.mg_none_of X G z10, PySem.W.mg_none_of X G z11, PySem.W.mg_none_of X G z12, PySem.W.mg_none_of X G z13, PySem.W.mg_none_of X G z14, PySem.W.mg_none_of X G z15⟩
  have m_InvalidRecord := PySem.W.mg_of X G x0hg
  have ex_InvalidRecord : PySem.Oxi.ExcTxt l.prog K "InvalidRecord" x0C x0f := ⟨⟨_, _, _, _, _, _, _, _, _, _, _, _, _, _, _, x0hL, x0hve⟩, x0hsa, x0hnN, x0hiC, x0htC, x0hkC, x0heC, x0hvC, x0hmC, x0hyC, x0hsu, x0han_, x0hei, x0hsp, x0htp, ⟨_, _, _, _, _, _, _, _, _, _, _, _, _, _, by decide, by decide, x0hl, x0hco, ⟨_, _, _, x0hce⟩, ⟨_, _, _, _, _, _, x0hcd, x0hv2, x0hfi⟩⟩⟩
  have xm_InvalidRecord := x0hxm
  have m_InvalidOrder := PySem.W.mg_of X G x1hg
  have ex_InvalidOrder : PySem.Oxi.ExcTxt l.prog K "InvalidOrder" x1C x1f := ⟨⟨_, _, _, _, _, _, _, _, _, _, _, _, _, _, _, x1hL, x1hve⟩, x1hsa, x1hnN, x1hiC, x1htC, x1hkC, x1heC, x1hvC, x1hmC, x1hyC, x1hsu, x1han_, x1hei, x1hsp, x1htp, ⟨_, _, _, _, _, _, _, _, _, _, _, _, _, _, by decide, by decide, x1hl, x1hco, ⟨_, _, _, x1hce⟩, ⟨_, _, _, _, _, _, x1hcd, x1hv2, x1hfi⟩⟩⟩
  have xm_InvalidOrder := x1hxm
  refine ⟨PySem.W.fnOf "law" "law" (defArgs s_law) (defBody s_law) (defScope s_law) .none kV23 dc23 pm23 an23 cd23 ct23, fun s u => .of_eq rfl, fun base _ _ hsm => ?_⟩
  have C1 := ok_is_an_integer (P := l.prog) (w := w) (base := base) bt A_is_an_integer
  have C2 := ok_is_step bt A_is_step C1
  have C3 := ok_is_event bt A_is_event C1 C2
  have C4 := ok_is_short_list (P := l.prog) (w := w) (base := base) bt m_MOST_EVENTS A_is_short_list
  have C5 := ok_takes_turn (P := l.prog) (w := w) (base := base) A_takes_turn
  have C6 := ok_is_below (P := l.prog) (w := w) (base := base) A_is_below
  have C7 := ok_can_follow A_can_follow C5
  have C8 := ok_check_record bt ex_InvalidRecord m_InvalidRecord A_check_record C4 C3 C7 C6
  have C9 := ok_check_order bt ex_InvalidOrder m_InvalidOrder A_check_order C4 C2 C5 C6
  have C10 := ok_is_record m_InvalidRecord xm_InvalidRecord A_is_record C8
  have C11 := ok_is_order m_InvalidOrder xm_InvalidOrder A_is_order C9
  have D1 := ok__law_spin (P := l.prog) (w := w) (base := base) A__law_spin
  have D2 := ok__law_reel (P := l.prog) (w := w) (base := base) bt A__law_reel
  have D3 := ok__law_record bt A__law_record D1
  have D4 := ok__law_is_number (P := l.prog) (w := w) (base := base) bt A__law_is_number
  have D5 := ok__law_record_fault bt A__law_record_fault D4
  have D6 := ok__law_order_fault bt A__law_order_fault D5
  have D7 := ok__law_odd_events (P := l.prog) (w := w) (base := base) bt A__law_odd_events
  have D8 := ok__law_next_event (P := l.prog) (w := w) (base := base) bt A__law_next_event
  have D9 := ok__law_told_right bt hsm A__law_told_right D5 D6 C10 C11
  have D10 := ok__law_steps (P := l.prog) (w := w) (base := base) bt A__law_steps
  have D11 := ok__law_sizes_right bt A__law_sizes_right D10 C10 C11
  have D12 := ok__law_changed_right bt A__law_changed_right C10 D9
  exact ok_law bt (fun_mk l23 c23 k23) D2 D1 D3 D7 D8 D9 D10 D11 D12 C10 C11
end K05
open PySem PySem.W PyProof.Rows
set_option maxHeartbeats 0 in
theorem PySem.Challenge.cw_holdtap_k05_records_recognized_holds : PySem.Challenge.rw_holdtap_k05_records_recognized.Holds := by
  w_on; o_law; k_head; (case hw => w_witness2)
  k_fill
  refine Gd.walkGS (l := PySem.Challenge.rw_holdtap_k05_records_recognized) (n := 63) (k := 10) (x := "_law_script") (sp := fun K => K05.spLaw K) (by first | rfl | decide +kernel) rfl (by decide) rfl ⟨rfl, by decide, by decide⟩ (fun w h Y => PySem.W.kIn_of Y) ?F (fun _ _ a ns hl hS => ⟨a, ns, rfl, hS, hl, fun _ => rfl⟩)
  case F =>
    intro w mg fa h KX G hmg
    refine' K05.all_mk KX G hmg ?a0 ?l0 ?c0 ?k0 ?a1 ?l1 ?c1 ?k1 ?a2 ?l2 ?c2 ?k2 ?a3 ?l3 ?c3 ?k3 ?a4 ?l4 ?c4 ?k4 ?a5 ?l5 ?c5 ?k5 ?a6 ?l6 ?c6 ?k6 ?a7 ?l7 ?c7 ?k7 ?u_7 ?a8 ?l8 ?c8 ?k8 ?u_8 ?a9 ?l9 ?c9 ?k9 ?a10 ?l10 ?c10 ?k10 ?a11 ?l11 ?c11 ?k11 ?a12 ?l12 ?c12 ?k12 ?a13 ?l13 ?c13 ?k13 ?a14 ?l14 ?c14 ?k14 ?a15 ?l15 ?c15 ?k15 ?a16 ?l16 ?c16 ?k16 ?a17 ?l17 ?c17 ?k17 ?a18 ?l18 ?c18 ?k18 ?a19 ?l19 ?c19 ?k19 ?a20 ?l20 ?c20 ?k20 ?a21 ?l21 ?c21 ?k21 ?a22 ?l22 ?c22 ?k22 ?a23 ?l23 ?c23 ?k23 ?v0 ?z0 ?z1 ?z2 ?z3 ?z4 ?z5 ?z6 ?z7 ?z8 ?z9 ?z10 ?z11 ?z12 ?z13 ?z14 ?z15 ?x0hg ?x0hL ?x0hve ?x0hsa ?x0hnN ?x0hiC ?x0htC ?x0hkC ?x0heC ?x0hvC ?x0hmC ?x0hyC ?x0hsu ?x0han_ ?x0hei ?x0hsp ?x0htp ?x0hl ?x0hco ?x0hce ?x0hcd ?x0hv2 ?x0hfi ?x0hxm ?x1hg ?x1hL ?x1hve ?x1hsa ?x1hnN ?x1hiC ?x1htC ?x1hkC ?x1heC ?x1hvC ?x1hmC ?x1hyC ?x1hsu ?x1han_ ?x1hei ?x1hsp ?x1htp ?x1hl ?x1hco ?x1hce ?x1hcd ?x1hv2 ?x1hfi ?x1hxm
    (case a0 => k_is); (case l0 => k_is); (case c0 => k_is); (case k0 => k_is); (case a1 => k_is); (case l1 => k_is); (case c1 => k_is); (case k1 => k_is); (case a2 => k_is); (case l2 => k_is); (case c2 => k_is); (case k2 => k_is); (case a3 => k_is); (case l3 => k_is); (case c3 => k_is); (case k3 => k_is); (case a4 => k_is); (case l4 => k_is); (case c4 => k_is); (case k4 => k_is); (case a5 => k_is); (case l5 => k_is); (case c5 => k_is); (case k5 => k_is); (case a6 => k_is); (case l6 => k_is); (case c6 => k_is); (case k6 => k_is); (case a7 => k_is); (case l7 => k_is); (case c7 => k_is); (case k7 => k_is); (case u_7 => k_is); (case a8 => k_is); (case l8 => k_is); (case c8 => k_is); (case k8 => k_is); (case u_8 => k_is); (case a9 => k_is); (case l9 => k_is); (case c9 => k_is); (case k9 => k_is); (case a10 => k_is); (case l10 => k_is); (case c10 => k_is); (case k10 => k_is); (case a11 => k_is); (case l11 => k_is); (case c11 => k_is); (case k11 => k_is); (case a12 => k_is); (case l12 => k_is); (case c12 => k_is); (case k12 => k_is); (case a13 => k_is); (case l13 => k_is); (case c13 => k_is); (case k13 => k_is); (case a14 => k_is); (case l14 => k_is); (case c14 => k_is); (case k14 => k_is); (case a15 => k_is); (case l15 => k_is); (case c15 => k_is); (case k15 => k_is); (case a16 => k_is); (case l16 => k_is); (case c16 => k_is); (case k16 => k_is); (case a17 => k_is); (case l17 => k_is); (case c17 => k_is); (case k17 => k_is); (case a18 => k_is); (case l18 => k_is); (case c18 => k_is); (case k18 => k_is); (case a19 => k_is); (case l19 => k_is); (case c19 => k_is); (case k19 => k_is); (case a20 => k_is); (case l20 => k_is); (case c20 => k_is); (case k20 => k_is); (case a21 => k_is); (case l21 => k_is); (case c21 => k_is); (case k21 => k_is); (case a22 => k_is); (case l22 => k_is); (case c22 => k_is); (case k22 => k_is); (case a23 => k_is); (case l23 => k_is); (case c23 => k_is); (case k23 => k_is); (case v0 => k_is); (case z0 => k_is); (case z1 => k_is); (case z2 => k_is); (case z3 => k_is); (case z4 => k_is); (case z5 => k_is); (case z6 => k_is); (case z7 => k_is); (case z8 => k_is); (case z9 => k_is); (case z10 => k_is); (case z11 => k_is); (case z12 => k_is); (case z13 => k_is); (case z14 => k_is); (case z15 => k_is); (case x0hg => first | k_is | rfl | decide +kernel); (case x0hL => first | k_is | rfl | decide +kernel); (case x0hve => first | k_is | rfl | decide +kernel); (case x0hsa => first | k_is | rfl | decide +kernel); (case x0hnN => first | k_is | rfl | decide +kernel); (case x0hiC => first | k_is | rfl | decide +kernel); (case x0htC => first | k_is | rfl | decide +kernel); (case x0hkC => first | k_is | rfl | decide +kernel); (case x0heC => first | k_is | rfl | decide +kernel); (case x0hvC => first | k_is | rfl | decide +kernel); (case x0hmC => first | k_is | rfl | decide +kernel); (case x0hyC => first | k_is | rfl | decide +kernel); (case x0hsu => first | k_is | rfl | decide +kernel); (case x0han_ => first | k_is | rfl | decide +kernel); (case x0hei => first | k_is | rfl | decide +kernel); (case x0hsp => first | k_is | rfl | decide +kernel); (case x0htp => first | k_is | rfl | decide +kernel); (case x0hl => first | k_is | rfl | decide +kernel); (case x0hco => first | k_is | rfl | decide +kernel); (case x0hce => first | k_is | rfl | decide +kernel); (case x0hcd => first | k_is | rfl | decide +kernel); (case x0hv2 => first | k_is | rfl | decide +kernel); (case x0hfi => first | k_is | rfl | decide +kernel); (case x0hxm => first | k_is | rfl | decide +kernel); (case x1hg => first | k_is | rfl | decide +kernel); (case x1hL => first | k_is | rfl | decide +kernel); (case x1hve => first | k_is | rfl | decide +kernel); (case x1hsa => first | k_is | rfl | decide +kernel); (case x1hnN => first | k_is | rfl | decide +kernel); (case x1hiC => first | k_is | rfl | decide +kernel); (case x1htC => first | k_is | rfl | decide +kernel); (case x1hkC => first | k_is | rfl | decide +kernel); (case x1heC => first | k_is | rfl | decide +kernel); (case x1hvC => first | k_is | rfl | decide +kernel); (case x1hmC => first | k_is | rfl | decide +kernel); (case x1hyC => first | k_is | rfl | decide +kernel); (case x1hsu => first | k_is | rfl | decide +kernel); (case x1han_ => first | k_is | rfl | decide +kernel); (case x1hei => first | k_is | rfl | decide +kernel); (case x1hsp => first | k_is | rfl | decide +kernel); (case x1htp => first | k_is | rfl | decide +kernel); (case x1hl => first | k_is | rfl | decide +kernel); (case x1hco => first | k_is | rfl | decide +kernel); (case x1hce => first | k_is | rfl | decide +kernel); (case x1hcd => first | k_is | rfl | decide +kernel); (case x1hv2 => first | k_is | rfl | decide +kernel); (case x1hfi => first | k_is | rfl | decide +kernel); (case x1hxm => first | k_is | rfl | decide +kernel)

