import PyProof.Rows.All
import Wide.All
import OpenK.AllK
import Wide.FinOn
import HandS.ForMost
import HandS.Walk
import HandS.Wide
import HandS.Style
import HandS.More
import HandS.SetFor
import HandS.SortInts
import HandS.IsInst
import HandS.Codes
import PyProof.ReprRoads
import HandS.Defaults
import HandS.Deep
import HandS.Strs
import HandS.Conv
import PySem.Challenge.RW_holdtap_k24_pieces_of_records
set_option Elab.async false
set_option linter.all false
set_option maxRecDepth 100000
set_option maxHeartbeats 4000000
/-! A layer over the hand layer in which a def knows that no display is being shown (A.guards): repr needs it. -/
namespace Gd
open PySem PySem.Spec PyProof.Rows L2

/-- what a def promises where no guard stands -/
structure FnG (P : Program) (w : World) (K : PySem.W.Frag) (mg : Str → Option Value) (base : Heap)
    (k : Nat) (f : Addr) (fd : FuncData) (ps : List Str) (sp : Sp) : Prop where
  len : ∀ vs H Q E, sp vs H Q E → vs.length = ps.length
  go : ∀ (A : Around) (outer : List Env) (s : Shared) (H : Hp) (args : Args) (us : List Value) (vs : List V) (Q : VK),
    A.guards = some [] → Room k A → Env0 P w K mg base A outer s H → BindsTo s fd args (ps.zip us) →
    Vals vs us → sp vs H Q E0 →
    codeAny (model P w) A (.call (.ref f) args) (CR CX0 outer P w H s Q E0) s

theorem deep_guards {A : Around} {e : Env} (h : A.guards = some []) : (A.deeper e).guards = some [] := h

section
variable {P : Program} {w : World} {K : PySem.W.Frag} {mg : Str → Option Value} {base : Heap}
theorem fnG {x qual : Str} {st : Stmt} {f : Addr} {fd : FuncData} {N ps : List Str} {k : Nat} {sp : Sp}
    (F : Fun K x qual st f fd) (S : FnScope N ps (defScope st))
    (len : ∀ vs H Q E, sp vs H Q E → vs.length = ps.length)
    (hb : ∀ (cdv : Value) (A : Around) (outer : List Env) (s : Shared) (H : Hp) (vs : List V) (Q : VK),
      A.guards = some [] → Room k (A.deeper (envOfC qual (defScope st) s.heap.objs.size f cdv)) → sp vs H Q E0 →
      ∃ t, PSs (cxOf CX0 P w K mg base N qual (defScope st) f cdv A outer s H E0).nox (defBody st) t ∧
        t { nx := fun _ H' => Q .non H', rt := Q } (start N vs) H) :
    FnG P w K mg base (k + 1) f fd ps sp := by
  obtain ⟨oc, od, kV, doc, pm, an, cdv, ct, osl, rfl, lk, hcd⟩ := F.ex
  refine ⟨len, fun A outer s H args us vs Q hg hr e0 bt rv hsp => ?_⟩
  have kin : K.In s.heap := e0.mod.kin.keeps (fun b o e => (e0.bs b o e).1)
  have nol : s.heap.NoLimit := e0.mod.nolimit.keeps (fun b o e => (e0.bs b o e).1)
  have pk : ((ps.zip us).all fun y => (defScope st).names.lookup y.1 == some NameKind.local ||
      (defScope st).names.lookup y.1 == some NameKind.cell) = true := by
    rw [List.all_eq_true]
    rintro ⟨n, v⟩ hm
    have hp := S.par n (List.of_mem_zip hm).1
    rcases hp with e | e <;> simp [e]
  refine Att.call_fn kin nol lk hcd hr.depth bt pk (fun s1 ic => ?_) S.co S.gen S.kind
  obtain ⟨t, ht, hq⟩ := hb cdv A outer s H vs Q hg (hr.deeper _) hsp
  have J := inv_start (CX := CX0) (E := E0) (P := P) (w := w) (mg := mg) (base := base) S hr.hd e0 (len _ _ _ _ hsp) rv ic
  have J' := J.wish (fun _ _ => False)
  refine wpAny_mono (ht.run [] s1 (start N vs) H _ J' hq) (fun fl s' sp' => ?_) (fun _ _ z => z.elim)
  match fl, sp' with
  | .next, ⟨σ', H', L, q⟩ => exact ⟨.non, H', L.os, L.bare, L.base, L.hok, rfl, q⟩
  | .ret u, ⟨v, σ', H', L, rr, q⟩ => exact ⟨v, H', L.os, L.bare, L.base, L.hok, rr, q⟩
  | .brk, ⟨_, _, _, q⟩ => exact False.elim q
  | .cont, ⟨_, _, _, q⟩ => exact False.elim q
end

/-- a def that may be called by its name -/
structure Cl (P : Program) (w : World) (K : PySem.W.Frag) (mg : Str → Option Value) (base : Heap) (k : Nat) (x : Str) (sp : Sp) : Prop where
  ex : ∃ (f : Addr) (fd : FuncData) (ps : List Str), FnG P w K mg base k f fd ps sp ∧ mg x = some (.ref f) ∧
    PySem.W.keepIn K (.ref f) = true ∧ Binds K fd ps []
/-- where a def stands: its text, its name in the module -/
structure At (K : PySem.W.Frag) (mg : Str → Option Value) (x : Str) (st : Stmt) (ps : List Str) : Prop where
  ex : ∃ (f : Addr) (fd : FuncData), Fun K x x st f fd ∧ mg x = some (.ref f) ∧ Binds K fd ps []
section
variable {P : Program} {w : World} {K : PySem.W.Frag} {mg : Str → Option Value} {base : Heap}
theorem clG {x : Str} {st : Stmt} {N ps : List Str} {k : Nat} {sp : Sp} (a : At K mg x st ps) (S : FnScope N ps (defScope st))
    (len : ∀ vs H Q E, sp vs H Q E → vs.length = ps.length)
    (hb : ∀ (f : Addr) (cdv : Value) (A : Around) (outer : List Env) (s : Shared) (H : Hp) (vs : List V) (Q : VK),
      A.guards = some [] → Room k (A.deeper (envOfC x (defScope st) s.heap.objs.size f cdv)) → sp vs H Q E0 →
      ∃ t, PSs (cxOf CX0 P w K mg base N x (defScope st) f cdv A outer s H E0).nox (defBody st) t ∧
        t { nx := fun _ H' => Q .non H', rt := Q } (start N vs) H) : Cl P w K mg base (k + 1) x sp := by
  obtain ⟨f, fd, F, hm, b⟩ := a.ex
  exact ⟨f, fd, ps, fnG F S len (hb f), hm, F.kp, b⟩
theorem Cl.imp {x : Str} {k : Nat} {sp sp' : Sp} (c : Cl P w K mg base k x sp) (h : ∀ vs H Q E, sp' vs H Q E → sp vs H Q E) :
    Cl P w K mg base k x sp' := by
  obtain ⟨f, fd, ps, F, hm, kp, b⟩ := c.ex
  exact ⟨f, fd, ps, ⟨fun vs H Q E z => F.len vs H Q E (h _ _ _ _ z), fun A o s H as us vs Q g r e bt rv z => F.go A o s H as us vs Q g r e bt rv (h _ _ _ _ z)⟩, hm, kp, b⟩
end
section
variable {X : Cx} {k j : Nat} {x : Str} {sp : Sp} {p pos : Pos} {e : Expr} {es : List Expr} {t : TA}
theorem run_cl {f : Addr} {fd : FuncData} {ps : List Str} {pins : List (Addr × Obj)} {σ : L2.St} {H : Hp} {s : Shared} {Q : VK} {us : List Value} {vs : List V}
    (F : FnG X.prog X.w X.K X.mg X.base k f fd ps sp) (hg : X.A.guards = some []) (hr : Room k X.A) (b : Binds X.K fd ps [])
    (I : Inv X pins σ H s) (rv : Vals vs us) (h : sp vs H Q E0) : wpAny (model X.prog X.w) X.A (call (.ref f) us) (EP X pins σ Q) X.xe s := by
  have hl : us.length = ps.length := rv.length.symm.trans (F.len _ _ _ _ h)
  have bt := b s us I.kIn (by simpa using hl)
  rw [List.append_nil] at bt
  refine wpAny_call (codeAny_mono (F.go X.A X.stack s H ⟨us, []⟩ us vs Q hg hr I.env0 bt rv h) (fun r s' hq => ?_))
  match r, hq with
  | .ok (.ret u), hq => exact I.after hq
  | .ok .next, hq => exact False.elim hq
  | .ok .brk, hq => exact False.elim hq
  | .ok .cont, hq => exact False.elim hq
  | .error _, hq => exact False.elim hq
/-- f(e, ..) -/
theorem pe_cl (c : Cl X.prog X.w X.K X.mg X.base k x sp) (hg : X.A.guards = some []) (hr : Room j X.A) (hk : k ≤ j) (gl : Gl X x) (ha : PA X (e :: es) t)
    (hd : (x == ("__debug__" : Str)) = false := by decide)
    (he : starEach (e :: es) X.env = (false, eval e X.env) :: starEach es X.env := by rfl)
    (hp : (backTo pos (starEach es X.env)).any (·.1) = false := by rfl) :
    PE X (.Call (.Name x p) (e :: es) [] pos) (tCall sp [] E0 t) := by
  obtain ⟨f, fd, ps, F, hm, kp, b⟩ := c.ex
  refine ⟨fun pins s σ H Q I h => wpAny_Call_Name_kw (ld_glob I gl hm (PySem.W.callWith_K (h₀ := X.base) I.ok.mod.kin kp ?_ he hp) hd)⟩
  refine thn (ha.run pos pins s σ H _ I h) (fun us s1 z => ?_)
  obtain ⟨vs, H1, I1, rv, q⟩ := z
  exact ⟨I1.kIn, run_cl F hg (hr.mono hk) b I1 rv (by simpa using q)⟩
/-- f() -/
theorem pe_cl0 (c : Cl X.prog X.w X.K X.mg X.base k x sp) (hg : X.A.guards = some []) (hr : Room j X.A) (hk : k ≤ j) (gl : Gl X x)
    (hd : (x == ("__debug__" : Str)) = false := by decide) :
    PE X (.Call (.Name x p) [] [] pos) (tCall sp [] E0 tNil) := by
  obtain ⟨f, fd, ps, F, hm, kp, b⟩ := c.ex
  refine ⟨fun pins s σ H Q I h => wpAny_Call_Name_kw (ld_glob I gl hm (PySem.W.callWith_K0 I.kIn kp ?_) hd)⟩
  exact run_cl (us := []) F hg (hr.mono hk) b I .nil h
end

/-! ### rules that lack: a great power, repr of data -/
def CPowW (i j : Int) : Prop := 0 ≤ j ∧ (Builtin.Int.intBits i : Int) * j ≤ 2 ^ 27
theorem op_powW {X : Cx} : OpR X (binaryOp .Pow) (rI CPowW fun i j => .int (i ^ j.toNat)) := opI fun _ _ _ _ _ _ _ hc q => pow_int hc.1 hc.2 q
theorem bits_le {i : Int} {n : Nat} (h : i.natAbs < 2 ^ n) : Builtin.Int.intBits i ≤ n := by
  unfold Builtin.Int.intBits
  split
  · exact Nat.zero_le _
  · rename_i hz
    have h0 : i.natAbs ≠ 0 := by
      intro z
      apply hz
      have : i = 0 := Int.natAbs_eq_zero.mp z
      simp [this]
    have := (Nat.log2_lt h0).mpr h
    omega
theorem powW {i : Int} {n k : Nat} (h : i.natAbs < 2 ^ n) (hs : n * k ≤ 2 ^ 27) : CPowW i (k : Int) := by
  refine ⟨by omega, ?_⟩
  have b := bits_le h
  have m : Builtin.Int.intBits i * k ≤ 2 ^ 27 := Nat.le_trans (Nat.mul_le_mul_right k b) hs
  exact_mod_cast m

/-- repr(x), x a list or a tuple of data -/
def rRep (K : PySem.W.Frag) : List V → Hp → VK → Prop := fun xs H Q => ∃ (a : Addr) (d : PyData), xs = [.ref a] ∧ Dp K H (.ref a) d ∧
  d.showable = true ∧ d.depth ≤ 50 ∧ d.shown.length ≤ sizeLine ∧ Q (.str d.shown) H
mutual
theorem dp_nodict {K : PySem.W.Frag} {H : Hp} : ∀ (d : PyData) (v : V), Dp K H v d → d.hasDict = false
  | .none, _, _ => rfl
  | .bool _, _, _ => rfl
  | .int _, _, _ => rfl
  | .str _, _, _ => rfl
  | .list ds, _, h => by
    cases h with
    | lst _ ha => exact dps_nodict ds _ ha
  | .tuple ds, _, h => by
    cases h with
    | tup _ ha => exact dps_nodict ds _ ha
  | .dict _, _, h => by cases h
theorem dps_nodict {K : PySem.W.Frag} {H : Hp} : ∀ (ds : List PyData) (vs : List V), DpAll K H vs ds → PyData.hasDictAll ds = false
  | [], _, _ => rfl
  | d :: ds, _, h => by
    cases h with
    | cons h1 h2 =>
      show (d.hasDict || PyData.hasDictAll ds) = false
      rw [dp_nodict d _ h1, dps_nodict ds _ h2]
      rfl
end
theorem call_rep {X : Cx} {k : Nat} (hg : X.A.guards = some []) (hr : Room k X.A) : CallR X (.builtin "repr") (rRep X.K) := by
  intro pins s σ H xs us Q I r h
  obtain ⟨a, d, rfl, hd, hs, hdp, hz, q⟩ := h
  obtain ⟨u, rfl, ru⟩ := vals1 r
  obtain ⟨as, rd⟩ := Dp.reads I d (.ref a) u hd ru
  cases ru
  have hu := hr.un
  exact repr_of_reads' rd hs (PyData.noDict_hsm (dp_nodict d _ hd)) hg (by omega) (fun _ _ e => e)
    (fun h' t tk hk => ⟨.str d.shown, H, I.kept (t' := tk) hk, ⟨t, rfl⟩, q⟩) hz

/-! ### the law's own call -/
section
variable {P : Program} {w : World} {K : PySem.W.Frag} {mg mb : Str → Option Value} {k : Nat} {fa a : Addr} {fd : FuncData} {x : Str} {sp : Sp} {s₁ : Shared} {vs : List Value} {ns : List Int}
/-- the heap as the caller has it, H what is tracked of it: at most the script -/
theorem top_run (KX : K.In s₁.heap) (gl : s₁.heap.Ns mainGlobals mg) (bl : s₁.heap.Ns builtinsNs mb) (bb : ∀ y : Str, y ≠ "__name__" → mb y = bootBuiltins y)
    (nol : s₁.heap.NoLimit) (ng : s₁.gens = #[]) (oa : s₁.heap.get? a = some { cls := .type "list", data := .seq vs.toArray }) (hr : Room k callerA)
    (F : ∀ base : Heap, K.In base → base.Ns mainGlobals mg → FnG P w K mg base k fa fd [x] sp)
    (bt : ∀ (s : Shared) (u : Value), BindsTo s fd ⟨[u], []⟩ [(x, u)]) {H : Hp} (only : Only H) (hok : HOk P w H s₁.heap)
    (at_a : ∀ b, H b ≠ none → b = a ∧ K.lookup a = none) (h : sp [.ref a] H (fun v _ => v = .bl true) E0) :
    codeAny (model P w) callerA (.call (.ref fa) ⟨[.ref a], []⟩)
      (fun r s' => r = .ok (.ret (.bool true)) ∧ OldK s₁.heap s'.heap ∧ s'.os = s₁.os ∧ AllBare s'.gens) s₁ := by
  have free : ∀ {b : Addr} {o : Obj}, s₁.heap.get? b = some o → (b = a → ∃ es ep, o.data = .dict es ep) → H b = none := by
    intro b o e d
    rcases Classical.em (H b = none) with z | z
    · exact z
    · obtain ⟨rfl, _⟩ := at_a b z
      obtain ⟨es, ep, hd⟩ := d rfl
      rw [oa] at e
      cases e
      cases hd
  have nsAt : ∀ {b : Addr} {m : Str → Option Value}, s₁.heap.Ns b m → (hidT s₁.heap H).Ns b m := by
    intro b m z
    obtain ⟨o, es, ep, e, d, r⟩ := z
    exact ⟨o, es, ep, hidT_get e (free e fun _ => ⟨es, ep, d⟩), d, r⟩
  have KB : K.In (hidT s₁.heap H) := by
    intro b o e
    refine hidT_get (KX b o e) ?_
    rcases Classical.em (H b = none) with z | z
    · exact z
    · obtain ⟨rfl, q⟩ := at_a b z
      rw [q] at e
      cases e
  obtain ⟨ml, l1, l2⟩ := nol
  have M : Mod K mg (hidT s₁.heap H) := ⟨KB, nsAt gl, ⟨mb, nsAt bl, bb⟩, ⟨ml, nsAt l1, l2⟩⟩
  have E : Env0 P w K mg (hidT s₁.heap H) callerA [] s₁ H := by
    refine ⟨rfl, M, fun b o e => of_hidT e, Nat.le_of_eq (hidT_size _ _), True.intro, fun b hb => ?_, hok, .of_eq ng⟩
    exact nomatch (show b ∈ ([] : List Addr) from hb)
  refine codeAny_mono ((F _ KB (nsAt gl)).go callerA [] s₁ H ⟨[.ref a], []⟩ [.ref a] [.ref a] _ rfl hr E (bt s₁ (.ref a)) (.cons rfl .nil) h) ?_
  intro r s' z
  match r, z with
  | .ok .next, z => exact False.elim z
  | .ok .brk, z => exact False.elim z
  | .ok .cont, z => exact False.elim z
  | .error _, z => exact False.elim z
  | .ok (.ret u), ⟨v, H', os, bare, un, hok', rv, q⟩ =>
    have q : v = .bl true := q
    subst q
    have ru : u = Value.bool true := rv
    subst ru
    refine ⟨rfl, OldK.of_keep fun b o e => ?_, os, bare⟩
    rcases only b with n | ⟨ob, xs, n⟩
    · exact un.keep b o e n (fun m => nomatch (show b ∈ ([] : List Addr) from m)) (fun m => nomatch m)
    · have f1 := hok b _ n
      have f2 := hok' b _ (un.frzs b ob _ n)
      have g1 : s₁.heap.get? b = some ob := f1.1
      have g2 : s'.heap.get? b = some ob := f2.1
      rw [e] at g1
      cases g1
      exact g2
theorem law_callG (KX : K.In s₁.heap) (gl : s₁.heap.Ns mainGlobals mg) (bl : s₁.heap.Ns builtinsNs mb) (bb : ∀ y : Str, y ≠ "__name__" → mb y = bootBuiltins y)
    (nol : s₁.heap.NoLimit) (ng : s₁.gens = #[]) (oa : s₁.heap.get? a = some { cls := .type "list", data := .seq vs.toArray }) (hi : IntsAre vs ns) (hl : ns.length ≤ sizeLine) (hr : Room k callerA)
    (F : ∀ base : Heap, K.In base → base.Ns mainGlobals mg → FnG P w K mg base k fa fd [x] sp)
    (bt : ∀ (s : Shared) (u : Value), BindsTo s fd ⟨[u], []⟩ [(x, u)])
    (hsp : ∀ H : Hp, Only H → SqL K H a (ns.map V.int) → sp [.ref a] H (fun v _ => v = .bl true) E0) :
    codeAny (model P w) callerA (.call (.ref fa) ⟨[.ref a], []⟩)
      (fun r s' => r = .ok (.ret (.bool true)) ∧ OldK s₁.heap s'.heap ∧ s'.os = s₁.os ∧ AllBare s'.gens) s₁ := by
  have rv := vals_ints hi
  have lenV := hi.length
  by_cases hk : K.lookup a = none
  · let H : Hp := fun b => if b = a then some (.frz { cls := .type "list", data := .seq vs.toArray } (.lst (ns.map V.int))) else none
    have Ha : H a = some (.frz { cls := .type "list", data := .seq vs.toArray } (.lst (ns.map V.int))) := if_pos rfl
    have Hn : ∀ {b : Addr}, b ≠ a → H b = none := fun h => if_neg h
    have only : Only H := by
      intro b
      by_cases e : b = a
      · subst e; exact .inr ⟨_, _, Ha⟩
      · exact .inl (Hn e)
    refine top_run KX gl bl bb nol ng oa hr F bt (H := H) only ?_ ?_ (hsp H only (.inl (.inr ⟨_, Ha⟩)))
    · intro b u z
      by_cases e : b = a
      · subst e
        rw [Ha] at z
        cases z
        exact ⟨oa, by rw [List.length_map]; exact hl, vs, _, rv, oa⟩
      · rw [Hn e] at z; cases z
    · intro b z
      by_cases e : b = a
      · exact ⟨e, hk⟩
      · exact absurd (Hn e) z
  · obtain ⟨o, ho⟩ := Option.ne_none_iff_exists'.mp hk
    have e := KX a o ho
    rw [oa] at e
    cases e
    have only : Only (fun _ => none) := fun _ => .inl rfl
    refine top_run KX gl bl bb nol ng oa hr F bt (H := fun _ => none) only (fun b u z => nomatch z) (fun b z => absurd rfl z) (hsp _ only (.inr ?_))
    exact ⟨_, vs.toArray, _, ho, rfl, rfl, rfl, by rw [List.size_toArray, lenV]; exact hl, by simpa using rv⟩
end
/-- what k_head leaves, from the promise of the law's def -/
theorem walkG {l : PySem.W.OpenLaw} {n k : Nat} {q : Program} {loose : List Str} {XP : (Str → Option Value) → Heap → Prop} {YP : World → Heap → Prop} {d : DefRec} {K : Params → PySem.W.Frag} {sp : PySem.W.Frag → Sp} {x : Str}
    (hn : l.most = some n) (hn2 : n ≤ sizeLine) (hdf : d.params.defaults = []) (hr : Room k callerA)
    (hY : ∀ (w : World) (h : Heap), YP w h → (K w.params).In h)
    (F : ∀ (w : World) (mg : Str → Option Value) (fa : Addr) (h : Heap), (K w.params).In h → h.Ns mainGlobals mg → mg d.name = some (.ref fa) →
      ∃ fd : FuncData, (∀ (s : Shared) (u : Value), BindsTo s fd ⟨[u], []⟩ [(x, u)]) ∧
        ∀ base : Heap, (K w.params).In base → base.Ns mainGlobals mg → FnG l.prog w (K w.params) mg base k fa fd [x] (sp (K w.params)))
    (hsp : ∀ (K : PySem.W.Frag) (H : Hp) (a : Addr) (ns : List Int), ns.length ≤ n → SqL K H a (ns.map V.int) →
      sp K [.ref a] H (fun v _ => v = .bl true) E0) :
    PySem.W.WalkO q loose XP YP l.row.toRowW d [] (fun f vs => PySem.call f vs) := by
  refine Att.attach_call hn hdf ?_
  intro w s₀ s₁ mg mb fa o pm cd doc a vs ns G Y ho hd hcd hmg oa hi hlen ng
  have KX := hY w _ Y
  obtain ⟨fd, bt, hF⟩ := F w mg fa _ KX G.T.g hmg
  exact law_callG KX G.T.g G.T.b G.T.builtins G.T.nolimit ng oa hi (Nat.le_trans hlen hn2) hr hF bt (fun H _ hS => hsp _ H a ns hlen hS)
end Gd

set_option Elab.async false
set_option linter.all false
set_option maxRecDepth 100000
set_option maxHeartbeats 4000000
/-! a def with defaults, called with all of its arguments, or with some of them -/
namespace Gd
open PySem PySem.Spec PyProof.Rows L2
theorem room65 {k : Nat} {A : Around} (r : Room k A) : A.units + 65 < cLine := by have := r.un; omega
/-- where a def with defaults stands; ds: the values that fill up -/
structure AtX (K : PySem.W.Frag) (mg : Str → Option Value) (x : Str) (st : Stmt) (ps : List Str) (ds : List Value) : Prop where
  ex : ∃ (f : Addr) (oc : Value) (od : Option Addr) (dV kV doc pm : Value) (an : Option Addr) (cdv ct : Value) (osl : Array (Option Value)),
    K.lookup f = some ⟨oc, od, .func (PySem.W.fnOf x x (defArgs st) (defBody st) (defScope st) dV kV doc pm an cdv ct), osl⟩ ∧ PySem.W.codeIn K cdv x = true ∧ PySem.W.keepIn K (.ref f) = true ∧ mg x = some (.ref f) ∧
    Binds K (PySem.W.fnOf x x (defArgs st) (defBody st) (defScope st) dV kV doc pm an cdv ct) ps ds
section
variable {P : Program} {w : World} {K : PySem.W.Frag} {mg : Str → Option Value} {base : Heap}
theorem clX {x : Str} {st : Stmt} {N ps : List Str} {k : Nat} {sp : Sp} (a : AtX K mg x st ps []) (S : FnScope N ps (defScope st))
    (len : ∀ vs H Q E, sp vs H Q E → vs.length = ps.length)
    (hb : ∀ (f : Addr) (cdv : Value) (A : Around) (outer : List Env) (s : Shared) (H : Hp) (vs : List V) (Q : VK),
      A.guards = some [] → Room k (A.deeper (envOfC x (defScope st) s.heap.objs.size f cdv)) → sp vs H Q E0 →
      ∃ t, PSs (cxOf CX0 P w K mg base N x (defScope st) f cdv A outer s H E0).nox (defBody st) t ∧
        t { nx := fun _ H' => Q .non H', rt := Q } (start N vs) H) : Cl P w K mg base (k + 1) x sp := by
  obtain ⟨f, oc, od, dV, kV, doc, pm, an, cdv, ct, osl, lk, hcd, kp, hm, bd⟩ := a.ex
  refine ⟨f, _, ps, ⟨len, fun A outer s H args us vs Q hg hr e0 bt rv hsp => ?_⟩, hm, kp, bd⟩
  have kin : K.In s.heap := e0.mod.kin.keeps (fun b o e => (e0.bs b o e).1)
  have nol : s.heap.NoLimit := e0.mod.nolimit.keeps (fun b o e => (e0.bs b o e).1)
  have pk : ((ps.zip us).all fun y => (defScope st).names.lookup y.1 == some NameKind.local ||
      (defScope st).names.lookup y.1 == some NameKind.cell) = true := by
    rw [List.all_eq_true]
    rintro ⟨n, v⟩ hm
    have hp := S.par n (List.of_mem_zip hm).1
    rcases hp with e | e <;> simp [e]
  refine Att.call_fn kin nol lk hcd hr.depth bt pk (fun s1 ic => ?_) S.co S.gen S.kind
  obtain ⟨t, ht, hq⟩ := hb f cdv A outer s H vs Q hg (hr.deeper _) hsp
  have J := inv_start (CX := CX0) (E := E0) (P := P) (w := w) (mg := mg) (base := base) S hr.hd e0 (len _ _ _ _ hsp) rv ic
  have J' := J.wish (fun _ _ => False)
  refine wpAny_mono (ht.run [] s1 (start N vs) H _ J' hq) (fun fl s' sp' => ?_) (fun _ _ z => z.elim)
  match fl, sp' with
  | .next, ⟨σ', H', L, q⟩ => exact ⟨.non, H', L.os, L.bare, L.base, L.hok, rfl, q⟩
  | .ret u, ⟨v, σ', H', L, rr, q⟩ => exact ⟨v, H', L.os, L.bare, L.base, L.hok, rr, q⟩
  | .brk, ⟨_, _, _, q⟩ => exact False.elim q
  | .cont, ⟨_, _, _, q⟩ => exact False.elim q
end
/-- one default behind: all arguments are given -/
theorem atX_all {K : PySem.W.Frag} {h : Heap} {mg : Str → Option Value} {x : Str} {st : Stmt} {ps : List Str} {f T : Addr} {od an td : Option Addr} {sl ts : Array (Option Value)} {oc kV dc pm cd ct d : Value} {tn : Nat} (X : K.In h) (G : h.Ns mainGlobals mg)
    (a : PySem.W.nsIn K mainGlobals x = some (some (.ref f))) (l : K.lookup f = some ⟨oc, od, .func (PySem.W.fnOf x x (defArgs st) (defBody st) (defScope st) (.ref T) kV dc pm an cd ct), sl⟩) (c : PySem.W.codeIn K cd x = true) (k : PySem.W.keepIn K (.ref f) = true)
    (u : K.lookup T = some ⟨.type "tuple", td, .seq #[d] tn, ts⟩)
    (hb : ∀ (T : Addr) (kV doc pm : Value) (an : Option Addr) (cdv ct : Value) (us its : List Value), us.length = ps.length → its.length = 1 →
      ∃ k, bindArgs (PySem.W.fnOf x x (defArgs st) (defBody st) (defScope st) (.ref T) kV doc pm an cdv ct) ⟨us, []⟩ = seqItems? (.ref T) >>= k ∧ k (some its.toArray) = pure (ps.zip us)) : AtX K mg x st ps [] := by
  refine ⟨f, oc, od, .ref T, kV, dc, pm, an, cd, ct, sl, l, c, k, PySem.W.mg_of X G a, fun s us KX hl => ?_⟩
  rw [List.append_nil] at hl ⊢
  obtain ⟨g, e1, e2⟩ := hb T kV dc pm an cd ct us [d] hl rfl
  refine BindsTo.of_looks fun M => ?_
  rw [e1]
  exact looks_items (its := #[d]) KX u rfl (PySem.W.Looks.of_pure e2)
/-- a method's call within a comprehension: the constants said -/
theorem pe_bmB {X : Cx} {K0 : PySem.W.Frag} {T : String} {name : Str} {id : String} {r : V → List V → Hp → VK → Prop} {o e : Expr} {es : List Expr} {to : TE} {t : TA} {apos cpos : Pos} (hK : X.K = K0) (pa : PlainAttrs T) (slot : Slot T name id) (hty : typeOf (.builtin id) = pure (.type "method_descriptor")) (hm : MtR X id r) (ho : PE X o to) (ha : PA X (e :: es) t)
    (hbase : attributeBase o name X.env (eval o X.env) = eval o X.env := by rfl)
    (hfew : ((backTo cpos (starEach (e :: es) X.env)).all (fun x => !x.1) && (backToKw cpos (keywordEach [] X.env)).all (fun x => x.1.isSome)
      && decide ((e :: es).length + ([] : List Keyword).length + (if ([] : List Keyword).isEmpty then 0 else 1) < 30)) = true := by rfl)
    (hline : (apos.endLine == cpos.line) = true := by rfl) (hs : starEach (e :: es) X.env = (false, eval e X.env) :: starEach es X.env := by rfl) (hplain : (backTo cpos (starEach es X.env)).any (·.1) = false := by rfl) :
    PE X (.Call (.Attribute o name apos) (e :: es) [] cpos) (tBM K0 T r to t) := by
  subst hK
  exact pe_bm pa slot hty hm ho ha hbase hfew hline hs hplain
end Gd

set_option Elab.async false
set_option linter.all false
set_option maxRecDepth 100000
set_option maxHeartbeats 4000000
namespace Rm
open PySem PySem.Spec PyProof.Rows L2 Gd

/-! ### how long a display is -/
structure Fit (L n : Nat) (d : PyData) : Prop where
  sh : d.showable = true
  dp : d.depth ≤ n
  ln : d.shown.length ≤ L
theorem Fit.mono {L n L' n' : Nat} {d : PyData} (f : Fit L n d) (h : L ≤ L') (h' : n ≤ n') : Fit L' n' d := ⟨f.sh, by have := f.dp; omega, by have := f.ln; omega⟩
theorem allSh {L n : Nat} : ∀ {ds : List PyData}, (∀ d ∈ ds, Fit L n d) → PyData.showableAll ds = true ∧ PyData.depthAll ds ≤ n ∧ piled (PyData.shownAll ds) ≤ ds.length * (L + 2)
  | [], _ => ⟨rfl, Nat.zero_le _, Nat.zero_le _⟩
  | d :: ds, h => by
    obtain ⟨a, b, c⟩ := allSh (ds := ds) fun x hx => h x (List.mem_cons_of_mem _ hx)
    have f := h d List.mem_cons_self
    refine ⟨?_, ?_, ?_⟩
    · show (d.showable && PyData.showableAll ds) = true
      rw [f.sh, a]; rfl
    · show max d.depth (PyData.depthAll ds) ≤ n
      have := f.dp
      omega
    · show piled (d.shown :: PyData.shownAll ds) ≤ _
      rw [piled_cons, List.length_cons]
      have := f.ln
      have e : (ds.length + 1) * (L + 2) = ds.length * (L + 2) + (L + 2) := Nat.succ_mul _ _
      omega
theorem listText_le (ts : List Str) : (listText ts).length ≤ piled ts + 2 := by
  cases ts with
  | nil => decide
  | cons t r =>
    have h := textFrom_length_pos r 1 (("[" : Str) ++ (if (0 : Nat) > 0 then ", " else "" : String) ++ t) (Nat.succ_pos 0)
    have e : ((("[" : Str) ++ (if (0 : Nat) > 0 then ", " else "" : String) ++ t)).length = 1 + t.length := by
      rw [strLen_append, strLen_append]; rfl
    have x : (listText (t :: r)).length = (textFrom 1 (("[" : Str) ++ (if (0 : Nat) > 0 then ", " else "" : String) ++ t) r).length + 1 := by
      show (textFrom 1 (("[" : Str) ++ (if (0 : Nat) > 0 then ", " else "" : String) ++ t) r ++ "]").length = _
      rw [strLen_append]; rfl
    rw [x, h, e, piled_cons]
    omega
theorem tupleText_le (ts : List Str) : (tupleText ts).length ≤ piled ts + 3 := by
  unfold tupleText
  rw [strLen_append, strLen_append]
  have e1 : ((("(" : String) : Str)).length = 1 := rfl
  have e3 : (((if ts.length == 1 then ",)" else ")" : String) : Str)).length ≤ 2 := by split <;> decide
  rw [e1]
  cases ts with
  | nil =>
    have : (Str.join ", " []).length = 0 := by decide
    omega
  | cons t r =>
    have := join_length_add (t :: r) (by simp)
    omega
theorem fit_list {L n : Nat} {ds : List PyData} (h : ∀ d ∈ ds, Fit L n d) : Fit (ds.length * (L + 2) + 3) (n + 1) (.list ds) := by
  obtain ⟨a, b, c⟩ := allSh h
  have := listText_le (PyData.shownAll ds)
  exact ⟨a, by show PyData.depthAll ds + 1 ≤ _; omega, by show (listText (PyData.shownAll ds)).length ≤ _; omega⟩
theorem fit_tup {L n : Nat} {ds : List PyData} (h : ∀ d ∈ ds, Fit L n d) : Fit (ds.length * (L + 2) + 3) (n + 1) (.tuple ds) := by
  obtain ⟨a, b, c⟩ := allSh h
  have := tupleText_le (PyData.shownAll ds)
  exact ⟨a, by show PyData.depthAll ds + 1 ≤ _; omega, by show (tupleText (PyData.shownAll ds)).length ≤ _; omega⟩
theorem fit_int {i : Int} (h : i.natAbs < 2 ^ 200) : Fit 210 0 (.int i) := by
  have hl : i.natAbs.log2 < 200 := PySem.Flt.log2_lt_of (by decide) h
  refine ⟨?_, Nat.le_refl _, ?_⟩
  · show decide (i.natAbs.log2 < 1920) = true
    exact decide_eq_true (by omega)
  · show (Str.ofString (toString i)).length ≤ 210
    rw [PySem.ofString_length]
    have := int_text_length_le (k := 200) (by decide) hl
    omega
theorem fit_none : Fit 210 0 .none := ⟨rfl, Nat.le_refl _, by decide +kernel⟩
theorem fit_bool (b : Bool) : Fit 210 0 (.bool b) := ⟨rfl, Nat.le_refl _, by cases b <;> decide +kernel⟩

/-! ### records -/
structure Ev where
  t : Int
  k : Int
  d : Bool
def wayS (d : Bool) : Str := if d then "down" else "up"
theorem wayS_inj {a b : Bool} : wayS a = wayS b ↔ a = b := by cases a <;> cases b <;> decide +kernel
theorem wayS_down (d : Bool) : decide (V.str (wayS d) = V.str "down") = d := by cases d <;> decide +kernel
def evD (e : Ev) : PyData := .tuple [.int e.t, .int e.k, .str (wayS e.d)]
def stD (e : Ev) : PyData := .tuple [.int e.k, .str (wayS e.d)]
def evV (e : Ev) : List V := [.int e.t, .int e.k, .str (wayS e.d)]
def stV (e : Ev) : List V := [.int e.k, .str (wayS e.d)]
def recD (es : List Ev) : PyData := .list (es.map evD)
def ordD (es : List Ev) : PyData := .list (es.map stD)
def after (h : Int → Bool) (e : Ev) : Int → Bool := fun k => if k = e.k then e.d else h k
def heldB (es : List Ev) : Int → Bool := es.foldl after fun _ => false
theorem heldB_snoc (es : List Ev) (e : Ev) : heldB (es ++ [e]) = after (heldB es) e := by unfold heldB; rw [List.foldl_append]; rfl
theorem heldB_take {es : List Ev} {i : Nat} {e : Ev} (h : es[i]? = some e) : heldB (es.take (i + 1)) = after (heldB (es.take i)) e := by
  rw [List.take_add_one, h]
  exact heldB_snoc _ _
/-- a record as the document has it -/
def Valid (es : List Ev) : Prop := ∀ (i : Nat) (e : Ev), es[i]? = some e → 0 ≤ e.k ∧ heldB (es.take i) e.k = !e.d ∧ ∀ (j : Nat) (e' : Ev), j < i → es[j]? = some e' → e'.t ≤ e.t
/-- an order: the same without ticks -/
def ValidO (es : List Ev) : Prop := ∀ (i : Nat) (e : Ev), es[i]? = some e → 0 ≤ e.k ∧ heldB (es.take i) e.k = !e.d
theorem Valid.o {es : List Ev} (h : Valid es) : ValidO es := fun i e x => ⟨(h i e x).1, (h i e x).2.1⟩
theorem Valid.nil : Valid [] := fun _ _ h => by simp at h
theorem Valid.take {es : List Ev} (h : Valid es) (n : Nat) : Valid (es.take n) := fun i e x => by
  have hi : i < n := by
    rcases Nat.lt_or_ge i n with q | q
    · exact q
    · rw [List.getElem?_eq_none (by rw [List.length_take]; omega)] at x; cases x
  rw [List.getElem?_take_of_lt hi] at x
  obtain ⟨a, b, c⟩ := h i e x
  refine ⟨a, ?_, fun j e' hj y => ?_⟩
  · rw [List.take_take, Nat.min_eq_left (by omega)]; exact b
  · rw [List.getElem?_take_of_lt (by omega)] at y
    exact c j e' hj y
theorem ValidO.take {es : List Ev} (h : ValidO es) (n : Nat) : ValidO (es.take n) := fun i e x => by
  have hi : i < n := by
    rcases Nat.lt_or_ge i n with q | q
    · exact q
    · rw [List.getElem?_eq_none (by rw [List.length_take]; omega)] at x; cases x
  rw [List.getElem?_take_of_lt hi] at x
  obtain ⟨a, b⟩ := h i e x
  exact ⟨a, by rw [List.take_take, Nat.min_eq_left (by omega)]; exact b⟩
theorem Valid.snoc {es : List Ev} {e : Ev} (h : Valid es) (h0 : 0 ≤ e.k) (hb : heldB es e.k = !e.d) (ht : ∀ e' ∈ es, e'.t ≤ e.t) : Valid (es ++ [e]) := fun i x hx => by
  rcases Nat.lt_or_ge i es.length with q | q
  · rw [List.getElem?_append_left q] at hx
    obtain ⟨a, b, c⟩ := h i x hx
    refine ⟨a, ?_, fun j e' hj y => ?_⟩
    · rw [List.take_append_of_le_length (by omega)]; exact b
    · rw [List.getElem?_append_left (by omega)] at y
      exact c j e' hj y
  · have hi : i = es.length := by
      have := (List.getElem?_eq_some_iff.mp hx).1
      rw [List.length_append] at this
      simp at this
      omega
    subst hi
    rw [List.getElem?_append_right (Nat.le_refl _), Nat.sub_self] at hx
    have ex : e = x := Option.some.inj hx
    subst ex
    refine ⟨h0, ?_, fun j e' hj y => ?_⟩
    · rw [List.take_append_of_le_length (Nat.le_refl _), List.take_length]; exact hb
    · rw [List.getElem?_append_left hj] at y
      exact ht e' (List.mem_of_getElem? y)
/-- the ticks and keys are not too great to be shown -/
def Small (es : List Ev) : Prop := ∀ e ∈ es, e.t.natAbs < 2 ^ 200 ∧ e.k.natAbs < 2 ^ 200
theorem fit_ev {e : Ev} (h : e.t.natAbs < 2 ^ 200 ∧ e.k.natAbs < 2 ^ 200) : Fit 1000 1 (evD e) := by
  refine Fit.mono (fit_tup (L := 210) (n := 0) fun d hd => ?_) (by show 3 * 212 + 3 ≤ 1000; decide) (Nat.le_refl _)
  simp only [List.mem_cons, List.mem_nil_iff, or_false] at hd
  rcases hd with rfl | rfl | rfl
  · exact fit_int h.1
  · exact fit_int h.2
  · exact ⟨rfl, Nat.le_refl _, by cases e.d <;> decide +kernel⟩
theorem fit_st {e : Ev} (h : e.k.natAbs < 2 ^ 200) : Fit 1000 1 (stD e) := by
  refine Fit.mono (fit_tup (L := 210) (n := 0) fun d hd => ?_) (by show 2 * 212 + 3 ≤ 1000; decide) (Nat.le_refl _)
  simp only [List.mem_cons, List.mem_nil_iff, or_false] at hd
  rcases hd with rfl | rfl
  · exact fit_int h
  · exact ⟨rfl, Nat.le_refl _, by cases e.d <;> decide +kernel⟩
theorem fit_rec {es : List Ev} (h : Small es) (hl : es.length ≤ 1000) : Fit 1100000 2 (recD es) := by
  refine Fit.mono (fit_list (L := 1000) (n := 1) fun d hd => ?_) (by rw [List.length_map]; omega) (Nat.le_refl _)
  obtain ⟨e, he, rfl⟩ := List.mem_map.mp hd
  exact fit_ev (h e he)
theorem fit_ord {es : List Ev} (h : Small es) (hl : es.length ≤ 1000) : Fit 1100000 2 (ordD es) := by
  refine Fit.mono (fit_list (L := 1000) (n := 1) fun d hd => ?_) (by rw [List.length_map]; omega) (Nat.le_refl _)
  obtain ⟨e, he, rfl⟩ := List.mem_map.mp hd
  exact fit_st (h e he).2

/-! ### the dict of what is held -/
structure HeldK (kvs : List (Key × V)) (h : Int → Bool) : Prop where
  fm : ∀ p ∈ kvs, ∃ (k : Int) (b : Bool), p = (Sum.inl k, V.bl b)
  nd : (kvs.map (·.1)).Nodup
  at_ : ∀ k : Int, (valV kvs (Sum.inl k)).getD (.bl false) = .bl (h k)
theorem HeldK.nil : HeldK [] fun _ => false := ⟨fun _ h => by simp at h, List.nodup_nil, fun _ => rfl⟩
theorem put_len (kvs : List (Key × V)) (k : Key) (v : V) : (putK kvs k v).length ≤ kvs.length + 1 := by
  unfold putK
  split
  · rw [List.length_map]; omega
  · rw [List.length_append]; exact Nat.le_refl _
theorem put_keys (kvs : List (Key × V)) (k : Key) (v : V) (h : (kvs.map (·.1)).Nodup) : ((putK kvs k v).map (·.1)).Nodup := by
  cases e : valV kvs k with
  | none => exact nd_putK v h e
  | some x =>
    have a : (kvs.any fun kv => decide (kv.1 = k)) = true := by rw [valV_any, e]; rfl
    unfold putK
    rw [if_pos a, List.map_map]
    have : ((fun p : Key × V => p.1) ∘ fun kv => if kv.1 = k then (kv.1, v) else kv) = (·.1) := by
      funext p
      show (if p.1 = k then (p.1, v) else p).1 = p.1
      split <;> rfl
    rw [this]
    exact h
theorem HeldK.put {kvs : List (Key × V)} {es : List Ev} {e : Ev} (h : HeldK kvs (heldB es)) : HeldK (putK kvs (Sum.inl e.k) (.bl e.d)) (heldB (es ++ [e])) := by
  refine ⟨fun p hp => ?_, put_keys _ _ _ h.nd, fun k => ?_⟩
  · unfold putK at hp
    split at hp
    · obtain ⟨q, hq, rfl⟩ := List.mem_map.mp hp
      obtain ⟨k, b, rfl⟩ := h.fm q hq
      by_cases z : (Sum.inl k : Key) = Sum.inl e.k
      · exact ⟨k, e.d, by simp [z]⟩
      · exact ⟨k, b, by simp [z]⟩
    · rcases List.mem_append.mp hp with hp | hp
      · exact h.fm p hp
      · exact ⟨e.k, e.d, List.mem_singleton.mp hp⟩
  · rw [valV_put, heldB_snoc]
    unfold after
    by_cases z : k = e.k
    · subst z; simp
    · rw [if_neg (fun q => z (Sum.inl.inj q)), if_neg z]
      exact h.at_ k
def downs (kvs : List (Key × V)) : List Int := kvs.filterMap fun p => match p with
  | (Sum.inl k, .bl true) => some k
  | _ => none
theorem downs_cons (k : Int) (b : Bool) (r : List (Key × V)) : downs ((Sum.inl k, .bl b) :: r) = if b then k :: downs r else downs r := by
  cases b <;> simp [downs, List.filterMap_cons]
theorem downs_sub : ∀ {kvs : List (Key × V)} {k : Int}, k ∈ downs kvs → (Sum.inl k : Key) ∈ kvs.map (·.1)
  | kvs, k, h => by
    obtain ⟨p, hp, e⟩ := List.mem_filterMap.mp h
    refine List.mem_map.mpr ⟨p, hp, ?_⟩
    obtain ⟨a, b⟩ := p
    cases a with
    | inr _ => cases e
    | inl k' =>
      cases b with
      | bl c => cases c <;> simp at e; rw [e]
      | non => cases e
      | int _ => cases e
      | str _ => cases e
      | byt _ => cases e
      | flt _ => cases e
      | ref _ => cases e
      | ty _ => cases e
theorem downs_nd : ∀ {kvs : List (Key × V)}, (∀ p ∈ kvs, ∃ (k : Int) (b : Bool), p = (Sum.inl k, V.bl b)) → (kvs.map (·.1)).Nodup → (downs kvs).Nodup
  | [], _, _ => List.nodup_nil
  | p :: r, fm, nd => by
    obtain ⟨k, b, rfl⟩ := fm p List.mem_cons_self
    have nd' : ((Sum.inl k : Key) :: r.map (·.1)).Nodup := nd
    obtain ⟨n1, n2⟩ := List.nodup_cons.mp nd'
    have ih := downs_nd (fun q hq => fm q (List.mem_cons_of_mem _ hq)) n2
    rw [downs_cons]
    split
    · exact List.nodup_cons.mpr ⟨fun m => n1 (downs_sub m), ih⟩
    · exact ih
theorem downs_mem : ∀ {kvs : List (Key × V)}, (∀ p ∈ kvs, ∃ (k : Int) (b : Bool), p = (Sum.inl k, V.bl b)) → (kvs.map (·.1)).Nodup → ∀ k : Int, k ∈ downs kvs ↔ valV kvs (Sum.inl k) = some (.bl true)
  | [], _, _, k => by simp [downs, valV]
  | p :: r, fm, nd, k => by
    obtain ⟨k', b, rfl⟩ := fm p List.mem_cons_self
    have nd' : ((Sum.inl k' : Key) :: r.map (·.1)).Nodup := nd
    obtain ⟨n1, n2⟩ := List.nodup_cons.mp nd'
    have ih := downs_mem (fun q hq => fm q (List.mem_cons_of_mem _ hq)) n2 k
    rw [downs_cons]
    by_cases z : k' = k
    · subst z
      rw [valV_pos rfl]
      cases b with
      | true => simp
      | false =>
        simp only [Bool.false_eq_true, if_false]
        constructor
        · intro m; exact absurd (downs_sub m) n1
        · intro m; cases m
    · rw [valV_neg (fun q => z (Sum.inl.inj q))]
      rw [← ih]
      split
      · rw [List.mem_cons]
        exact ⟨fun q => q.resolve_left fun e => z e.symm, .inr⟩
      · exact Iff.rfl
theorem HeldK.mem {kvs : List (Key × V)} {h : Int → Bool} (x : HeldK kvs h) (k : Int) : k ∈ downs kvs ↔ h k = true := by
  rw [downs_mem x.fm x.nd k]
  have q := x.at_ k
  cases e : valV kvs (Sum.inl k) with
  | none =>
    rw [e] at q
    have q : V.bl false = .bl (h k) := q
    have : h k = false := (V.bl.inj q).symm
    simp [this]
  | some v =>
    rw [e] at q
    have q : v = .bl (h k) := q
    subst q
    constructor
    · intro z
      exact V.bl.inj (Option.some.inj z)
    · intro z
      rw [z]
/-- two ascending lists of the same keys -/
theorem same_sorted {a b c d : List Int} (h : ∀ k, k ∈ a ↔ k ∈ b) (na : a.Nodup) (nb : b.Nodup) (pa : c.Perm a) (pb : d.Perm b) (sa : c.Pairwise (· ≤ ·)) (sb : d.Pairwise (· ≤ ·)) : c = d := by
  have p : a.Perm b := (List.perm_ext_iff_of_nodup na nb).mpr h
  exact List.Perm.eq_of_pairwise (fun x y _ _ h1 h2 => Int.le_antisymm h1 h2) sa sb ((pa.trans p).trans pb.symm)

/-! ### heaps that change at one address alone -/
def Off (r : Addr) (H H' : Hp) : Prop := ∀ b o, H b = some o → b ≠ r → H' b = some o
theorem Off.refl {r : Addr} (H : Hp) : Off r H H := fun _ _ h _ => h
theorem Off.trans {r : Addr} {H H1 H2 : Hp} (a : Off r H H1) (b : Off r H1 H2) : Off r H H2 := fun c o h n => b c o (a c o h n) n
theorem Off.of {r : Addr} {H H1 : Hp} (a : Same H H1) : Off r H H1 := fun c o h _ => a c o h
theorem off_upd {r : Addr} {H : Hp} {o : HO} : Off r H (upd H r o) := fun b _ h n => by rw [upd_ne n]; exact h
theorem same_upd {H : Hp} {p : Addr} {o : HO} (h : H p = none) : Same H (upd H p o) := fun b x e => by
  rw [upd_ne (ne_of_none e h)]
  exact e
/-- what is new may change -/
theorem Same.off {H H1 H2 : Hp} {p : Addr} (s : Same H H1) (h : H p = none) (o : Off p H1 H2) : Same H H2 := fun b x e => o b x (s b x e) (ne_of_none e h)

/-! ### lists of tuples -/
def Tups {α : Type} (H : Hp) (f : α → List V) (as : List Addr) (es : List α) : Prop := as.length = es.length ∧ ∀ (i : Nat) (a : Addr) (e : α), as[i]? = some a → es[i]? = some e → H a = some (.tup (f e))
def Lst {α : Type} (f : α → List V) (H : Hp) (c : Addr) (es : List α) : Prop := ∃ as : List Addr, H c = some (.lst (as.map V.ref)) ∧ Tups H f as es
section
variable {α : Type} {f : α → List V} {H H' : Hp} {c r : Addr} {as : List Addr} {es : List α}
theorem Tups.nil : Tups H f [] ([] : List α) := ⟨rfl, fun i a e h _ => by simp at h⟩
theorem Tups.same (h : Tups H f as es) (s : Same H H') : Tups H' f as es := ⟨h.1, fun i a e x y => s _ _ (h.2 i a e x y)⟩
theorem Tups.off {ys : List V} (h : Tups H f as es) (hr : H r = some (.lst ys)) (o : Off r H H') : Tups H' f as es :=
  ⟨h.1, fun i a e x y => o _ _ (h.2 i a e x y) (ne_of (h.2 i a e x y) hr (by intro z; cases z))⟩
theorem Tups.snoc {a : Addr} {e : α} (h : Tups H f as es) (ha : H a = some (.tup (f e))) : Tups H f (as ++ [a]) (es ++ [e]) := by
  refine ⟨by rw [List.length_append, List.length_append, h.1]; rfl, fun i b x hb hx => ?_⟩
  rcases Nat.lt_or_ge i as.length with q | q
  · rw [List.getElem?_append_left q] at hb
    rw [List.getElem?_append_left (by rw [← h.1]; exact q)] at hx
    exact h.2 i b x hb hx
  · have hl := h.1
    have hi : i = as.length := by
      have := (List.getElem?_eq_some_iff.mp hb).1
      rw [List.length_append] at this
      simp at this
      omega
    subst hi
    rw [List.getElem?_append_right (Nat.le_refl _), Nat.sub_self] at hb
    rw [List.getElem?_append_right (by omega), show as.length - es.length = 0 by omega] at hx
    have e1 : a = b := Option.some.inj hb
    have e2 : e = x := Option.some.inj hx
    subst e1 e2
    exact ha
theorem Tups.take (h : Tups H f as es) (n : Nat) : Tups H f (as.take n) (es.take n) := by
  refine ⟨by rw [List.length_take, List.length_take, h.1], fun i b x hb hx => ?_⟩
  have hi : i < n := by
    rcases Nat.lt_or_ge i n with q | q
    · exact q
    · rw [List.getElem?_eq_none (by rw [List.length_take]; omega)] at hb; cases hb
  rw [List.getElem?_take_of_lt hi] at hb hx
  exact h.2 i b x hb hx
theorem Tups.append {bs : List Addr} {gs : List α} (h : Tups H f as es) (h' : Tups H f bs gs) : Tups H f (as ++ bs) (es ++ gs) := by
  refine ⟨by rw [List.length_append, List.length_append, h.1, h'.1], fun i b x hb hx => ?_⟩
  have hl := h.1
  rcases Nat.lt_or_ge i as.length with q | q
  · rw [List.getElem?_append_left q] at hb
    rw [List.getElem?_append_left (by omega)] at hx
    exact h.2 i b x hb hx
  · rw [List.getElem?_append_right q] at hb
    rw [List.getElem?_append_right (by omega), ← hl] at hx
    exact h'.2 _ b x hb hx
theorem Tups.at_ (h : Tups H f as es) {i : Nat} (hi : i < es.length) : ∃ a, as[i]? = some a ∧ H a = some (.tup (f es[i])) := by
  have hl := h.1
  exact ⟨as[i], List.getElem?_eq_getElem (by omega), h.2 i _ _ (List.getElem?_eq_getElem (by omega)) (List.getElem?_eq_getElem hi)⟩
theorem Tups.map {β : Type} {g : β → α} {bs : List β} (h : Tups H f as (bs.map g)) : Tups H (fun b => f (g b)) as bs := by
  refine ⟨by rw [h.1, List.length_map], fun i a b x y => h.2 i a (g b) x (by rw [List.getElem?_map, y]; rfl)⟩
theorem Tups.map' {β : Type} {g : β → α} {bs : List β} (h : Tups H (fun b => f (g b)) as bs) : Tups H f as (bs.map g) := by
  refine ⟨by rw [h.1, List.length_map], fun i a e x y => ?_⟩
  rw [List.getElem?_map] at y
  cases z : bs[i]? with
  | none => rw [z] at y; cases y
  | some b =>
    rw [z] at y
    have y : g b = e := Option.some.inj y
    subst y
    exact h.2 i a b x z
theorem Lst.same (h : Lst f H c es) (s : Same H H') : Lst f H' c es := by
  obtain ⟨as, a, b⟩ := h
  exact ⟨as, s _ _ a, b.same s⟩
theorem Lst.off {ys : List V} (h : Lst f H c es) (hr : H r = some (.lst ys)) (n : c ≠ r) (o : Off r H H') : Lst f H' c es := by
  obtain ⟨as, a, b⟩ := h
  exact ⟨as, o _ _ a n, b.off hr o⟩
end
theorem dp_int {K : PySem.W.Frag} {H : Hp} {i : Int} : Dp K H (.int i) (.int i) := .int i
theorem dpAll_of {K : PySem.W.Frag} {H : Hp} {α : Type} {f : α → List V} {g : α → PyData} (hg : ∀ (a : Addr) (e : α), H a = some (.tup (f e)) → Dp K H (.ref a) (g e)) :
    ∀ (as : List Addr) (es : List α), Tups H f as es → DpAll K H (as.map V.ref) (es.map g)
  | [], [], _ => .nil
  | [], _ :: _, h => by have := h.1; simp at this
  | _ :: _, [], h => by have := h.1; simp at this
  | a :: as, e :: es, h => .cons (hg a e (h.2 0 a e rfl rfl)) (dpAll_of hg as es ⟨by have := h.1; simpa using this, fun i b x hb hx => h.2 (i + 1) b x (by simpa using hb) (by simpa using hx)⟩)
theorem Lst.dp {K : PySem.W.Frag} {H : Hp} {c : Addr} {es : List Ev} (h : Lst evV H c es) : Dp K H (.ref c) (recD es) := by
  obtain ⟨as, a, b⟩ := h
  refine .lst (SqL.of a) (dpAll_of (fun a e ha => ?_) as es b)
  exact .tup (SqT.of ha) (.cons (.int _) (.cons (.int _) (.cons (.str _) .nil)))
theorem Lst.dpO {K : PySem.W.Frag} {H : Hp} {c : Addr} {es : List Ev} (h : Lst stV H c es) : Dp K H (.ref c) (ordD es) := by
  obtain ⟨as, a, b⟩ := h
  refine .lst (SqL.of a) (dpAll_of (fun a e ha => ?_) as es b)
  exact .tup (SqT.of ha) (.cons (.int _) (.cons (.str _) .nil))
theorem dpInts {K : PySem.W.Frag} {H : Hp} : ∀ ns : List Int, DpAll K H (ns.map V.int) (ns.map PyData.int)
  | [] => .nil
  | n :: ns => .cons (.int n) (dpInts ns)
theorem Lst.sql {K : PySem.W.Frag} {α : Type} {f : α → List V} {H : Hp} {c : Addr} {es : List α} (h : Lst f H c es) : ∃ xs : List V, SqL K H c xs ∧ xs.length = es.length := by
  obtain ⟨as, a, b⟩ := h
  exact ⟨_, SqL.of a, by rw [List.length_map]; exact b.1⟩

theorem val_at : ∀ {kvs : List (Key × V)} {i : Nat} {k : Key} {v : V}, (kvs.map (·.1)).Nodup → kvs[i]? = some (k, v) → valV kvs k = some v
  | [], _, _, _, _, h => by simp at h
  | p :: r, 0, k, v, _, h => by
    have e : p = (k, v) := Option.some.inj h
    subst e
    exact valV_pos rfl
  | p :: r, i + 1, k, v, nd, h => by
    have nd' : (p.1 :: r.map (·.1)).Nodup := nd
    obtain ⟨n1, n2⟩ := List.nodup_cons.mp nd'
    have h' : r[i]? = some (k, v) := by simpa using h
    have m : k ∈ r.map (·.1) := List.mem_map.mpr ⟨(k, v), List.mem_of_getElem? h', rfl⟩
    rw [valV_neg (fun e => n1 (e ▸ m))]
    exact val_at n2 h'
theorem downs_append (a b : List (Key × V)) : downs (a ++ b) = downs a ++ downs b := by unfold downs; rw [List.filterMap_append]
theorem downs_take {kvs : List (Key × V)} {i : Nat} {k : Int} {b : Bool} (h : kvs[i]? = some (Sum.inl k, .bl b)) : downs (kvs.take (i + 1)) = if b then downs (kvs.take i) ++ [k] else downs (kvs.take i) := by
  rw [List.take_add_one, h, downs_append]
  cases b <;> simp [downs]
theorem downs_len (kvs : List (Key × V)) : (downs kvs).length ≤ kvs.length := by unfold downs; exact List.length_filterMap_le _ _
end Rm

set_option Elab.async false
set_option linter.all false
set_option maxRecDepth 100000
set_option maxHeartbeats 4000000
namespace Rm
open PySem PySem.Spec PyProof.Rows L2 Gd

theorem Off.new {r p : Addr} {H H1 : Hp} {o : HO} (a : Off r H H1) (n : H p = none) : Off r H (upd H1 p o) := fun b x e ne => by
  rw [upd_ne (ne_of_none e n)]
  exact a b x e ne
theorem Off.at_ {r : Addr} {H H1 : Hp} {o : HO} (a : Off r H H1) : Off r H (upd H1 r o) := a.trans off_upd
theorem Off.sameTrans {r : Addr} {H H1 H2 : Hp} (a : Off r H H1) (b : Same H1 H2) : Off r H H2 := a.trans (Off.of b)
/-- what was free stays free of it: a new address of a later heap is new for the earlier one too -/
theorem Off.free {r p : Addr} {H H1 : Hp} {o : HO} (a : Off r H H1) (hr : H1 r = some o) (n : H1 p = none) : H p = none := by
  cases e : H p with
  | none => rfl
  | some x =>
    have h : p ≠ r := fun z => by rw [z, hr] at n; cases n
    rw [a p x e h] at n
    cases n

theorem getI {ns : List Int} {d : Int} (h0 : 0 ≤ d) (h1 : d < (ns.length : Int)) : ∃ (v : Int), atI (ns.map V.int) d = some (.int v) ∧ ns[d.toNat]? = some v := by
  have hd : d.toNat < ns.length := by omega
  refine ⟨ns[d.toNat], ?_, List.getElem?_eq_getElem hd⟩
  refine at_of (j := d.toNat) (by omega) ?_
  rw [List.getElem?_map, List.getElem?_eq_getElem hd]
  rfl
theorem inv_int (k : Int) : ∀ ns : List Int, inV (.int k) (ns.map V.int) = decide (k ∈ ns)
  | [] => rfl
  | n :: ns => by
    show (eqV (.int n) (.int k) || inV (.int k) (ns.map V.int)) = _
    rw [inv_int k ns]
    have e : eqV (.int n) (.int k) = decide (n = k) := by
      by_cases z : n = k <;> simp [eqV, z]
    rw [e]
    by_cases z : n = k
    · subst z; simp
    · have z' : ¬ k = n := fun q => z q.symm
      simp [z, z']
theorem flat_ints : ∀ ns : List Int, (ns.map V.int).all flatV = true
  | [] => rfl
  | n :: ns => by
    show (flatV (.int n) && (ns.map V.int).all flatV) = true
    rw [flat_ints ns]
    rfl
theorem lay_ints : ∀ ns : List Int, PyData.canLayAll0 (ns.map PyData.int) = true ∧ PyData.depthAll (ns.map PyData.int) = 0
  | [] => ⟨rfl, rfl⟩
  | n :: ns => by
    obtain ⟨a, b⟩ := lay_ints ns
    refine ⟨?_, ?_⟩
    · show (PyData.canLay0 (.int n) && PyData.canLayAll0 (ns.map PyData.int)) = true
      rw [a]
      rfl
    · show max (PyData.depth (.int n)) (PyData.depthAll (ns.map PyData.int)) = 0
      rw [b]
      rfl
theorem shaped_ints (ns : List Int) : SeqAt.shaped (.list (ns.map PyData.int)) = true := by
  obtain ⟨a, b⟩ := lay_ints ns
  show (PyData.canLayAll0 (ns.map PyData.int) && decide (PyData.depthAll (ns.map PyData.int) + 1 ≤ 64)) = true
  rw [a, b]
  rfl
theorem eqv_nil (ds : List PyData) : PyData.eqv (.list ds) (.list []) = ds.isEmpty := by
  cases ds <;> rfl
theorem mem_eraseIdx {ns : List Int} {j : Nat} {k : Int} (nd : ns.Nodup) (h : ns[j]? = some k) (x : Int) : x ∈ ns.eraseIdx j ↔ x ≠ k ∧ x ∈ ns := by
  rw [List.mem_eraseIdx_iff_getElem?]
  constructor
  · rintro ⟨i, hi, e⟩
    refine ⟨fun z => ?_, List.mem_of_getElem? e⟩
    subst z
    exact hi (nd_ix nd e h)
  · rintro ⟨hx, hm⟩
    obtain ⟨i, e⟩ := List.getElem?_of_mem hm
    refine ⟨i, fun z => ?_, e⟩
    subst z
    rw [h] at e
    exact hx (Option.some.inj e).symm
theorem first_ix {ns : List Int} {j : Nat} {k : Int} (nd : ns.Nodup) (h : ns[j]? = some k) : ∀ m : Nat, m < j → ns[m]? ≠ some k := fun m hm e => by
  have := nd_ix nd e h
  omega

/-! ### the keys that are down, as a list -/
structure DownOk (ns : List Int) (es : List Ev) : Prop where
  nd : ns.Nodup
  mem : ∀ k, k ∈ ns ↔ heldB es k = true
theorem DownOk.nil : DownOk [] [] := ⟨List.nodup_nil, fun k => by simp [heldB]⟩
theorem DownOk.down {ns : List Int} {es : List Ev} {t k : Int} (h : DownOk ns es) (n : ¬ k ∈ ns) : DownOk (ns ++ [k]) (es ++ [⟨t, k, true⟩]) := by
  refine ⟨nd_snoc h.nd n, fun x => ?_⟩
  rw [heldB_snoc]
  unfold after
  rw [List.mem_append, List.mem_singleton, h.mem]
  by_cases z : x = k
  · subst z; simp
  · simp [z]
theorem DownOk.up {ns : List Int} {es : List Ev} {t k : Int} {j : Nat} (h : DownOk ns es) (e : ns[j]? = some k) : DownOk (ns.eraseIdx j) (es ++ [⟨t, k, false⟩]) := by
  refine ⟨h.nd.eraseIdx j, fun x => ?_⟩
  rw [heldB_snoc, mem_eraseIdx h.nd e, h.mem]
  unfold after
  by_cases z : x = k
  · subst z; simp
  · simp [z]
theorem DownOk.not {ns : List Int} {es : List Ev} {k : Int} (h : DownOk ns es) (n : ¬ k ∈ ns) : heldB es k = false := by
  cases e : heldB es k with
  | false => rfl
  | true => exact absurd ((h.mem k).mpr e) n
/-- other keys for the same -/
theorem heldB_map {f : Int → Int} (hf : ∀ a b, f a = f b → a = b) : ∀ (es : List Ev) (k : Int), heldB (es.map fun e => ⟨e.t, f e.k, e.d⟩) (f k) = heldB es k := by
  intro es k
  suffices h : ∀ (es : List Ev) (g g' : Int → Bool), (∀ k, g' (f k) = g k) → ∀ k, (es.map fun e => (⟨e.t, f e.k, e.d⟩ : Ev)).foldl after g' (f k) = es.foldl after g k from h es _ _ (fun _ => rfl) k
  intro es
  induction es with
  | nil => intro g g' h k; exact h k
  | cons e es ih =>
    intro g g' h k
    refine ih (after g e) (after g' ⟨e.t, f e.k, e.d⟩) (fun x => ?_) k
    unfold after
    by_cases z : x = e.k
    · subst z; simp
    · have z' : ¬ f x = f e.k := fun q => z (hf _ _ q)
      show (if f x = f e.k then e.d else g' (f x)) = if x = e.k then e.d else g x
      rw [if_neg z, if_neg z', h]
theorem Valid.rekey {f : Int → Int} (hf : ∀ a b, f a = f b → a = b) {es : List Ev} (h : Valid es) (h0 : ∀ e ∈ es, 0 ≤ f e.k) : Valid (es.map fun e => ⟨e.t, f e.k, e.d⟩) := fun i e x => by
  rw [List.getElem?_map] at x
  cases y : es[i]? with
  | none => rw [y] at x; cases x
  | some e' =>
    rw [y] at x
    have x : (⟨e'.t, f e'.k, e'.d⟩ : Ev) = e := Option.some.inj x
    subst x
    obtain ⟨a, b, c⟩ := h i e' y
    refine ⟨h0 e' (List.mem_of_getElem? y), ?_, fun j g hj z => ?_⟩
    · rw [← List.map_take]
      show heldB _ (f e'.k) = !e'.d
      rw [heldB_map hf]
      exact b
    · rw [List.getElem?_map] at z
      cases y2 : es[j]? with
      | none => rw [y2] at z; cases z
      | some g' =>
        rw [y2] at z
        have z : (⟨g'.t, f g'.k, g'.d⟩ : Ev) = g := Option.some.inj z
        subst z
        exact c j g' hj y2
/-- ups behind all for keys that are down -/
theorem Valid.ups {t : Int} : ∀ (ns : List Int) {es : List Ev}, Valid es → ns.Nodup → (∀ k ∈ ns, heldB es k = true ∧ 0 ≤ k) → (∀ e ∈ es, e.t ≤ t) → Valid (es ++ ns.map fun k => ⟨t, k, false⟩)
  | [], es, h, _, _, _ => by simpa using h
  | k :: ns, es, h, nd, hb, ht => by
    obtain ⟨n1, n2⟩ := List.nodup_cons.mp nd
    have h1 : Valid (es ++ [⟨t, k, false⟩]) := h.snoc (hb k List.mem_cons_self).2 (by have := (hb k List.mem_cons_self).1; simpa using this) ht
    have := Valid.ups ns h1 n2 (fun x hx => ⟨by
        rw [heldB_snoc]
        unfold after
        have z : x ≠ k := fun q => n1 (q ▸ hx)
        rw [if_neg z]
        exact (hb x (List.mem_cons_of_mem _ hx)).1, (hb x (List.mem_cons_of_mem _ hx)).2⟩) (fun e he => by
        rcases List.mem_append.mp he with he | he
        · exact ht e he
        · rw [List.mem_singleton.mp he]; exact Int.le_refl _)
    simpa using this
theorem heldB_ups {t : Int} : ∀ (ns : List Int) (es : List Ev) (k : Int), heldB (es ++ ns.map fun k => ⟨t, k, false⟩) k = (heldB es k && !decide (k ∈ ns))
  | [], es, k => by simp
  | n :: ns, es, k => by
    have e : es ++ (n :: ns).map (fun k => (⟨t, k, false⟩ : Ev)) = (es ++ [⟨t, n, false⟩]) ++ ns.map fun k => ⟨t, k, false⟩ := by simp
    rw [e, heldB_ups ns, heldB_snoc]
    unfold after
    by_cases z : k = n
    · subst z; simp
    · have : (k ∈ n :: ns) ↔ k ∈ ns := by simp [z]
      simp [z]
/-- who is down is a key of the record -/
theorem held_mem : ∀ {es : List Ev} {k : Int}, heldB es k = true → ∃ e ∈ es, e.k = k := by
  intro es k
  suffices h : ∀ (es : List Ev) (g : Int → Bool), es.foldl after g k = true → g k = true ∨ ∃ e ∈ es, e.k = k by
    intro z
    rcases h es _ z with q | q
    · cases q
    · exact q
  intro es
  induction es with
  | nil => intro g h; exact .inl h
  | cons e es ih =>
    intro g h
    rcases ih (after g e) h with q | ⟨e', he, hk⟩
    · unfold after at q
      by_cases z : k = e.k
      · exact .inr ⟨e, List.mem_cons_self, z.symm⟩
      · rw [if_neg z] at q
        exact .inl q
    · exact .inr ⟨e', List.mem_cons_of_mem _ he, hk⟩
theorem Valid.mono {es : List Ev} (h : Valid es) : ∀ (i j : Nat) (a b : Ev), i < j → es[i]? = some a → es[j]? = some b → a.t ≤ b.t := fun i j a b hij ha hb => (h j b hb).2.2 i a hij ha
theorem lay_st : ∀ es : List Ev, PyData.canLayAll0 (es.map stD) = true ∧ PyData.depthAll (es.map stD) ≤ 1
  | [] => ⟨rfl, Nat.zero_le _⟩
  | e :: es => by
    obtain ⟨a, b⟩ := lay_st es
    refine ⟨?_, ?_⟩
    · have h : PyData.canLay0 (.str (wayS e.d)) = true := by cases e.d <;> decide +kernel
      show ((true && (PyData.canLay0 (.str (wayS e.d)) && true)) && PyData.canLayAll0 (es.map stD)) = true
      rw [a, h]
      rfl
    · show max (PyData.depth (stD e)) (PyData.depthAll (es.map stD)) ≤ 1
      have : PyData.depth (stD e) = 1 := rfl
      omega
theorem shaped_ord (es : List Ev) : SeqAt.shaped (ordD es) = true := by
  obtain ⟨a, b⟩ := lay_st es
  show (PyData.canLayAll0 (es.map stD) && decide (PyData.depthAll (es.map stD) + 1 ≤ 64)) = true
  rw [a, decide_eq_true (by omega)]
  rfl
theorem shaped_nil : SeqAt.shaped (.list []) = true := rfl
end Rm

set_option Elab.async false
set_option linter.all false
set_option maxRecDepth 100000
set_option maxHeartbeats 4000000
/-! repr of any data; bounds in the heap -/
namespace Gd
open PySem PySem.Spec PyProof.Rows L2
def rRepA (K : PySem.W.Frag) : List V → Hp → VK → Prop := fun xs H Q => ∃ (v : V) (d : PyData), xs = [v] ∧ Dp K H v d ∧
  d.showable = true ∧ d.depth ≤ 50 ∧ d.shown.length ≤ sizeLine ∧ Q (.str d.shown) H
theorem call_repA {X : Cx} {k : Nat} (hg : X.A.guards = some []) (hr : Room k X.A) : CallR X (.builtin "repr") (rRepA X.K) := by
  intro pins s σ H xs us Q I r h
  obtain ⟨v, d, rfl, hd, hs, hdp, hz, q⟩ := h
  cases d with
  | list ds =>
    cases hd with
    | lst h1 h2 => exact call_rep hg hr pins s σ H _ us Q I r ⟨_, _, rfl, .lst h1 h2, hs, hdp, hz, q⟩
  | tuple ds =>
    cases hd with
    | tup h1 h2 => exact call_rep hg hr pins s σ H _ us Q I r ⟨_, _, rfl, .tup h1 h2, hs, hdp, hz, q⟩
  | dict ds => cases hd
  | none =>
    cases hd
    obtain ⟨u, rfl, ru⟩ := vals1 r
    cases ru
    exact PySem.P.repr_of_none ⟨.str _, H, I.tok _, ⟨_, rfl⟩, q⟩
  | bool b =>
    cases hd
    obtain ⟨u, rfl, ru⟩ := vals1 r
    cases ru
    exact PySem.P.repr_of_bool ⟨.str _, H, I.tok _, ⟨_, rfl⟩, q⟩
  | int i =>
    cases hd
    obtain ⟨u, rfl, ⟨t, rfl⟩⟩ := vals1 r
    exact PySem.P.repr_of_int (of_decide_eq_true hs) ⟨.str _, H, I.tok _, ⟨_, rfl⟩, q⟩
  | str z =>
    cases hd
    obtain ⟨u, rfl, ⟨t, rfl⟩⟩ := vals1 r
    exact PySem.P.repr_of_str ⟨.str _, H, I.tok _, ⟨_, rfl⟩, q⟩ hz
end Gd

set_option Elab.async false
set_option linter.all false
set_option maxRecDepth 100000
set_option maxHeartbeats 4000000
namespace La
open PySem PySem.Spec PyProof.Rows L2 Gd Rm

/-! ### codes -/
def signs : Str := "abcdefghijklmnopqrstuvwxyz0123456789"
def CodeOk (c : Str) : Prop := 1 ≤ c.cps.size ∧ c.cps.size ≤ 8 ∧ ∀ x ∈ c.cps.toList, x ∈ signs.cps.toList
instance (c : Str) : Decidable (CodeOk c) := by unfold CodeOk; infer_instance
theorem signs_low : ∀ x ∈ signs.cps.toList, x < 16 ^ 8 := by decide +kernel
theorem fit_code {c : Str} (h : CodeOk c) : Fit 210 0 (.str c) := by
  refine ⟨rfl, Nat.le_refl _, ?_⟩
  have q := PySem.StrLaws.reprText_len c fun x hx => signs_low x (h.2.2 x hx)
  have e : c.length = c.cps.size := rfl
  have := h.2.1
  show (reprText c).length ≤ 210
  omega
theorem joinL_one : ∀ cs : List Nat, TL.joinL [] (cs.map fun c => [c]) = cs
  | [] => rfl
  | [c] => rfl
  | c :: d :: r => by
    have ih := joinL_one (d :: r)
    show [c] ++ ([] ++ TL.joinL [] ((d :: r).map fun c => [c])) = c :: d :: r
    rw [ih]
    rfl
theorem join_one (cs : List Nat) : (Txt.join (("" : String) : Str) (cs.map fun c => (⟨#[c]⟩ : Str))).cps.toList = cs := by
  have h : ∀ a ys, Txt.join a ys = Str.join a ys := fun a ys => TL.join_eq a ys
  rw [h]
  show TL.tl (Str.join _ _) = cs
  rw [TL.tl_join, List.map_map]
  exact joinL_one cs
theorem code_join {cs : List Nat} (h1 : 1 ≤ cs.length) (h8 : cs.length ≤ 8) (h : ∀ c ∈ cs, c ∈ signs.cps.toList) : CodeOk (Txt.join (("" : String) : Str) (cs.map fun c => (⟨#[c]⟩ : Str))) := by
  have e := join_one cs
  refine ⟨?_, ?_, fun x hx => ?_⟩
  · rw [← Array.length_toList, e]; exact h1
  · rw [← Array.length_toList, e]; exact h8
  · rw [e] at hx; exact h x hx

/-! ### actions -/
inductive Actn where
  | none
  | thr
  | code (c : Str)
  | lay (w : Str) (j : Int)
  | dualC (c d : Str) (t : Int) (r : Str)
  | dualL (c : Str) (j t : Int) (r : Str)
def layWords : List Str := ["layer", "lock", "once"]
def rules : List Str := ["time", "other", "within"]
def ActOk (n i : Int) : Actn → Prop
  | .none => True
  | .thr => 0 < i
  | .code c => CodeOk c
  | .lay w j => w ∈ layWords ∧ 1 ≤ j ∧ j ≤ n - 1
  | .dualC c d t r => CodeOk c ∧ CodeOk d ∧ (1 ≤ t ∧ t ≤ 1000000000) ∧ r ∈ rules
  | .dualL c j t r => CodeOk c ∧ (1 ≤ j ∧ j ≤ n - 1) ∧ (1 ≤ t ∧ t ≤ 1000000000) ∧ r ∈ rules
def ActV (H : Hp) : Actn → V → Prop
  | .none, v => v = .str "none"
  | .thr, v => v = .str "through"
  | .code c, v => ∃ a, v = .ref a ∧ H a = some (.tup [.str "code", .str c])
  | .lay w j, v => ∃ a, v = .ref a ∧ H a = some (.tup [.str w, .int j])
  | .dualC c d t r, v => ∃ a b, v = .ref a ∧ H a = some (.tup [.str "dual", .str c, .ref b, .int t, .str r]) ∧ H b = some (.tup [.str "code", .str d])
  | .dualL c j t r, v => ∃ a b, v = .ref a ∧ H a = some (.tup [.str "dual", .str c, .ref b, .int t, .str r]) ∧ H b = some (.tup [.str "layer", .int j])
def actD : Actn → PyData
  | .none => .str "none"
  | .thr => .str "through"
  | .code c => .tuple [.str "code", .str c]
  | .lay w j => .tuple [.str w, .int j]
  | .dualC c d t r => .tuple [.str "dual", .str c, .tuple [.str "code", .str d], .int t, .str r]
  | .dualL c j t r => .tuple [.str "dual", .str c, .tuple [.str "layer", .int j], .int t, .str r]
theorem fit_word {w : Str} (h : w ∈ layWords ∨ w ∈ rules) : Fit 210 0 (.str w) := by
  refine ⟨rfl, Nat.le_refl _, ?_⟩
  unfold layWords rules at h
  simp only [List.mem_cons, List.mem_nil_iff, or_false] at h
  rcases h with (rfl | rfl | rfl) | (rfl | rfl | rfl) <;> decide +kernel
theorem fit_const (w : Str) (h : (reprText w).length ≤ 210 := by decide +kernel) : Fit 210 0 (.str w) := ⟨rfl, Nat.le_refl _, h⟩
theorem fit_two' {a b : PyData} (ha : Fit 210 0 a) (hb : Fit 210 0 b) : Fit 500 1 (.tuple [a, b]) := by
  refine Fit.mono (fit_tup (L := 210) (n := 0) fun d hd => ?_) (by show 2 * 212 + 3 ≤ 500; decide) (Nat.le_refl _)
  simp only [List.mem_cons, List.mem_nil_iff, or_false] at hd
  rcases hd with rfl | rfl
  · exact ha
  · exact hb
theorem fit_five {a b c d e : PyData} (ha : Fit 210 0 a) (hb : Fit 210 0 b) (hc : Fit 500 1 c) (hd : Fit 210 0 d) (he : Fit 210 0 e) : Fit 3000 2 (.tuple [a, b, c, d, e]) := by
  refine Fit.mono (fit_tup (L := 500) (n := 1) fun x hx => ?_) (by show 5 * 502 + 3 ≤ 3000; decide) (Nat.le_refl _)
  simp only [List.mem_cons, List.mem_nil_iff, or_false] at hx
  rcases hx with rfl | rfl | rfl | rfl | rfl
  · exact ha.mono (by decide) (by decide)
  · exact hb.mono (by decide) (by decide)
  · exact hc
  · exact hd.mono (by decide) (by decide)
  · exact he.mono (by decide) (by decide)
theorem fit_low {i : Int} (h : 0 ≤ i) (h2 : i ≤ 1000000000) : Fit 210 0 (.int i) := fit_int (by
  have : (2 : Nat) ^ 200 > 1000000000 := by decide
  omega)
theorem fit_act {n i : Int} {x : Actn} (h : ActOk n i x) (hn : n ≤ 1000) : Fit 3000 2 (actD x) := by
  cases x with
  | none => exact (fit_const "none").mono (by decide) (by decide)
  | thr => exact (fit_const "through").mono (by decide) (by decide)
  | code c => exact (fit_two' (fit_const "code") (fit_code h)).mono (by decide) (by decide)
  | lay w j =>
    obtain ⟨a, b, c⟩ := h
    exact (fit_two' (fit_word (.inl a)) (fit_low (by omega) (by omega))).mono (by decide) (by decide)
  | dualC c d t r =>
    obtain ⟨a, b, ⟨c1, c2⟩, e⟩ := h
    exact fit_five (fit_const "dual") (fit_code a) (fit_two' (fit_const "code") (fit_code b)) (fit_low (by omega) c2) (fit_word (.inr e))
  | dualL c j t r =>
    obtain ⟨a, ⟨b1, b2⟩, ⟨c1, c2⟩, e⟩ := h
    exact fit_five (fit_const "dual") (fit_code a) (fit_two' (fit_const "layer") (fit_low (by omega) (by omega))) (fit_low (by omega) c2) (fit_word (.inr e))

/-! ### heaps in which tuples stay -/
def Tk (H H' : Hp) : Prop := ∀ b xs, H b = some (.tup xs) → H' b = some (.tup xs)
theorem Tk.of {H H' : Hp} (s : Same H H') : Tk H H' := fun b xs h => s _ _ h
theorem Tk.trans {H H1 H2 : Hp} (a : Tk H H1) (b : Tk H1 H2) : Tk H H2 := fun c xs h => b c xs (a c xs h)
theorem Tk.refl (H : Hp) : Tk H H := fun _ _ h => h
theorem tk_upd {H : Hp} {r : Addr} {ys zs : List V} (h : H r = some (.lst ys)) : Tk H (upd H r (.lst zs)) := fun b xs e => by
  rw [upd_ne (ne_of e h (by intro z; cases z))]
  exact e
theorem ActV.keep {H H' : Hp} (t : Tk H H') : ∀ {x : Actn} {v : V}, ActV H x v → ActV H' x v
  | .none, _, h => h
  | .thr, _, h => h
  | .code _, _, ⟨a, e, h⟩ => ⟨a, e, t _ _ h⟩
  | .lay _ _, _, ⟨a, e, h⟩ => ⟨a, e, t _ _ h⟩
  | .dualC _ _ _ _, _, ⟨a, b, e, h, g⟩ => ⟨a, b, e, t _ _ h, t _ _ g⟩
  | .dualL _ _ _ _, _, ⟨a, b, e, h, g⟩ => ⟨a, b, e, t _ _ h, t _ _ g⟩
theorem ActV.dp {K : PySem.W.Frag} {H : Hp} : ∀ {x : Actn} {v : V}, ActV H x v → Dp K H v (actD x)
  | .none, _, h => by cases h; exact .str _
  | .thr, _, h => by cases h; exact .str _
  | .code _, _, ⟨a, e, h⟩ => by cases e; exact .tup (SqT.of h) (.cons (.str _) (.cons (.str _) .nil))
  | .lay _ _, _, ⟨a, e, h⟩ => by cases e; exact .tup (SqT.of h) (.cons (.str _) (.cons (.int _) .nil))
  | .dualC _ _ _ _, _, ⟨a, b, e, h, g⟩ => by
    cases e
    exact .tup (SqT.of h) (.cons (.str _) (.cons (.str _) (.cons (.tup (SqT.of g) (.cons (.str _) (.cons (.str _) .nil))) (.cons (.int _) (.cons (.str _) .nil)))))
  | .dualL _ _ _ _, _, ⟨a, b, e, h, g⟩ => by
    cases e
    exact .tup (SqT.of h) (.cons (.str _) (.cons (.str _) (.cons (.tup (SqT.of g) (.cons (.str _) (.cons (.int _) .nil))) (.cons (.int _) (.cons (.str _) .nil)))))

/-! ### rows and layouts -/
def Acts (H : Hp) (vs : List V) (xs : List Actn) : Prop := vs.length = xs.length ∧ ∀ (i : Nat) (v : V) (x : Actn), vs[i]? = some v → xs[i]? = some x → ActV H x v
def Row (H : Hp) (r : Addr) (xs : List Actn) : Prop := ∃ vs, H r = some (.lst vs) ∧ Acts H vs xs
def Rows (H : Hp) (rs : List Addr) (L : List (List Actn)) : Prop := rs.length = L.length ∧ ∀ (i : Nat) (r : Addr) (row : List Actn), rs[i]? = some r → L[i]? = some row → Row H r row
def Lay (H : Hp) (c : Addr) (L : List (List Actn)) : Prop := ∃ rs : List Addr, H c = some (.lst (rs.map V.ref)) ∧ Rows H rs L
def rowD (xs : List Actn) : PyData := .list (xs.map actD)
def layD (L : List (List Actn)) : PyData := .list (L.map rowD)
structure LayOk (L : List (List Actn)) (m : Nat) : Prop where
  n1 : 1 ≤ L.length
  n6 : L.length ≤ 6
  m1 : 1 ≤ m
  m16 : m ≤ 16
  len : ∀ row ∈ L, row.length = m
  ok : ∀ (i : Nat) (row : List Actn), L[i]? = some row → ∀ x ∈ row, ActOk L.length i x
section
variable {H H' : Hp} {c r : Addr} {vs : List V} {xs : List Actn} {rs : List Addr} {L : List (List Actn)} {m : Nat}
theorem Acts.nil : Acts H [] [] := ⟨rfl, fun i v x h _ => by simp at h⟩
theorem Acts.keep (h : Acts H vs xs) (t : Tk H H') : Acts H' vs xs := ⟨h.1, fun i v x a b => (h.2 i v x a b).keep t⟩
theorem Acts.at_ (h : Acts H vs xs) {i : Nat} (hi : i < xs.length) : ∃ v, vs[i]? = some v ∧ ActV H xs[i] v := by
  have hl := h.1
  exact ⟨vs[i], List.getElem?_eq_getElem (by omega), h.2 i _ _ (List.getElem?_eq_getElem (by omega)) (List.getElem?_eq_getElem hi)⟩
theorem Acts.snoc {v : V} {x : Actn} (h : Acts H vs xs) (hv : ActV H x v) : Acts H (vs ++ [v]) (xs ++ [x]) := by
  refine ⟨by rw [List.length_append, List.length_append, h.1]; rfl, fun i u y a b => ?_⟩
  have hl := h.1
  rcases Nat.lt_or_ge i vs.length with q | q
  · rw [List.getElem?_append_left q] at a
    rw [List.getElem?_append_left (by omega)] at b
    exact h.2 i u y a b
  · have hi : i = vs.length := by
      have := (List.getElem?_eq_some_iff.mp a).1
      rw [List.length_append] at this
      simp at this
      omega
    subst hi
    rw [List.getElem?_append_right (Nat.le_refl _), Nat.sub_self] at a
    rw [List.getElem?_append_right (by omega), show vs.length - xs.length = 0 by omega] at b
    have e1 : v = u := Option.some.inj a
    have e2 : x = y := Option.some.inj b
    subst e1 e2
    exact hv
theorem Acts.set {v : V} {x : Actn} {j : Nat} (h : Acts H vs xs) (hv : ActV H x v) : Acts H (vs.set j v) (xs.set j x) := by
  refine ⟨by rw [List.length_set, List.length_set, h.1], fun i u y a b => ?_⟩
  have hl := h.1
  by_cases z : j = i
  · subst z
    have hj : j < vs.length := by
      have := (List.getElem?_eq_some_iff.mp a).1
      rwa [List.length_set] at this
    rw [List.getElem?_set_self hj] at a
    rw [List.getElem?_set_self (by omega)] at b
    have e1 : v = u := Option.some.inj a
    have e2 : x = y := Option.some.inj b
    subst e1 e2
    exact hv
  · rw [List.getElem?_set_ne z] at a b
    exact h.2 i u y a b
theorem Row.same (h : Row H r xs) (s : Same H H') : Row H' r xs := by
  obtain ⟨vs, a, b⟩ := h
  exact ⟨vs, s _ _ a, b.keep (Tk.of s)⟩
theorem Rows.same (h : Rows H rs L) (s : Same H H') : Rows H' rs L := ⟨h.1, fun i r row a b => (h.2 i r row a b).same s⟩
theorem Lay.same (h : Lay H c L) (s : Same H H') : Lay H' c L := by
  obtain ⟨rs, a, b⟩ := h
  exact ⟨rs, s _ _ a, b.same s⟩
theorem Rows.at_ (h : Rows H rs L) {i : Nat} (hi : i < L.length) : ∃ r, rs[i]? = some r ∧ Row H r L[i] := by
  have hl := h.1
  exact ⟨rs[i], List.getElem?_eq_getElem (by omega), h.2 i _ _ (List.getElem?_eq_getElem (by omega)) (List.getElem?_eq_getElem hi)⟩
theorem Acts.dp {K : PySem.W.Frag} : ∀ {vs : List V} {xs : List Actn}, Acts H vs xs → DpAll K H vs (xs.map actD)
  | [], [], _ => .nil
  | [], _ :: _, h => by have := h.1; simp at this
  | _ :: _, [], h => by have := h.1; simp at this
  | v :: vs, x :: xs, h => .cons ((h.2 0 v x rfl rfl).dp) (Acts.dp ⟨by have := h.1; simpa using this, fun i u y a b => h.2 (i + 1) u y (by simpa using a) (by simpa using b)⟩)
theorem Row.dp {K : PySem.W.Frag} (h : Row H r xs) : Dp K H (.ref r) (rowD xs) := by
  obtain ⟨vs, a, b⟩ := h
  exact .lst (SqL.of a) b.dp
theorem Rows.dp {K : PySem.W.Frag} : ∀ {rs : List Addr} {L : List (List Actn)}, Rows H rs L → DpAll K H (rs.map V.ref) (L.map rowD)
  | [], [], _ => .nil
  | [], _ :: _, h => by have := h.1; simp at this
  | _ :: _, [], h => by have := h.1; simp at this
  | r :: rs, row :: L, h => .cons ((h.2 0 r row rfl rfl).dp) (Rows.dp ⟨by have := h.1; simpa using this, fun i u y a b => h.2 (i + 1) u y (by simpa using a) (by simpa using b)⟩)
theorem Lay.dp {K : PySem.W.Frag} (h : Lay H c L) : Dp K H (.ref c) (layD L) := by
  obtain ⟨rs, a, b⟩ := h
  exact .lst (SqL.of a) b.dp
theorem LayOk.fit (h : LayOk L m) : Fit 300100 4 (layD L) := by
  refine Fit.mono (fit_list (L := 50000) (n := 3) fun d hd => ?_) (by rw [List.length_map]; have := h.n6; omega) (Nat.le_refl _)
  obtain ⟨row, hr, rfl⟩ := List.mem_map.mp hd
  obtain ⟨i, hi⟩ := List.getElem?_of_mem hr
  refine Fit.mono (fit_list (L := 3000) (n := 2) fun d hd => ?_) (by rw [List.length_map, h.len row hr]; have := h.m16; omega) (Nat.le_refl _)
  obtain ⟨x, hx, rfl⟩ := List.mem_map.mp hd
  exact fit_act (h.ok i row hi x hx) (by have := h.n6; omega)
theorem LayOk.set (h : LayOk L m) {i j : Nat} {x : Actn} {row : List Actn} (hi : L[i]? = some row) (hx : ActOk L.length i x) : LayOk (L.set i (row.set j x)) m := by
  have hil := (List.getElem?_eq_some_iff.mp hi).1
  refine ⟨by rw [List.length_set]; exact h.n1, by rw [List.length_set]; exact h.n6, h.m1, h.m16, fun r hr => ?_, fun k r hk y hy => ?_⟩
  · rcases List.mem_or_eq_of_mem_set hr with q | q
    · exact h.len r q
    · rw [q, List.length_set]; exact h.len row (List.mem_of_getElem? hi)
  · rw [List.length_set]
    by_cases z : i = k
    · subst z
      rw [List.getElem?_set_self hil] at hk
      have e : row.set j x = r := Option.some.inj hk
      subst e
      rcases List.mem_or_eq_of_mem_set hy with q | q
      · exact h.ok i row hi y q
      · rw [q]; exact hx
    · rw [List.getElem?_set_ne z] at hk
      exact h.ok k r hk y hy
end
theorem inv_str (k : Str) : ∀ ws : List Str, inV (.str k) (ws.map V.str) = decide (k ∈ ws)
  | [] => rfl
  | n :: ns => by
    show (eqV (.str n) (.str k) || inV (.str k) (ns.map V.str)) = _
    rw [inv_str k ns]
    have e : eqV (.str n) (.str k) = decide (n = k) := by
      by_cases z : n = k <;> simp [eqV, z]
    rw [e]
    by_cases z : n = k
    · subst z; simp
    · have z' : ¬ k = n := fun q => z q.symm
      simp [z, z']
end La

set_option Elab.async false
set_option linter.all false
set_option maxRecDepth 100000
set_option maxHeartbeats 4000000
/-! combos, and the pieces of a record -/
namespace Cb
open PySem PySem.Spec PyProof.Rows L2 Gd Rm La
structure Cmb where
  ks : List Int
  t : Int
  c : Str
structure CmbOk (many : Int) (cb : Cmb) : Prop where
  asc : cb.ks.Pairwise (· < ·)
  len : cb.ks.length = 2 ∨ cb.ks.length = 3
  key : ∀ k ∈ cb.ks, 0 ≤ k ∧ k < many
  time : 1 ≤ cb.t ∧ cb.t ≤ 10 ^ 9
  code : CodeOk cb.c
def CmbV (H : Hp) (cb : Cmb) (v : V) : Prop := ∃ a k, v = .ref a ∧ H a = some (.tup [.ref k, .int cb.t, .str cb.c]) ∧ H k = some (.tup (cb.ks.map V.int))
theorem CmbV.tk {H H' : Hp} {cb : Cmb} {v : V} (h : CmbV H cb v) (t : Tk H H') : CmbV H' cb v := by
  obtain ⟨a, k, e, h1, h2⟩ := h
  exact ⟨a, k, e, t _ _ h1, t _ _ h2⟩
/-- a list of combos -/
def Cmbs (H : Hp) (c : Addr) (cbs : List Cmb) : Prop := ∃ vs : List V, H c = some (.lst vs) ∧ vs.length = cbs.length ∧ ∀ (i : Nat) (v : V) (cb : Cmb), vs[i]? = some v → cbs[i]? = some cb → CmbV H cb v
theorem Cmbs.same {H H' : Hp} {c : Addr} {cbs : List Cmb} (h : Cmbs H c cbs) (s : Same H H') : Cmbs H' c cbs := by
  obtain ⟨vs, a, b, d⟩ := h
  exact ⟨vs, s _ _ a, b, fun i v cb x y => (d i v cb x y).tk (Tk.of s)⟩
theorem Cmbs.go {H H' : Hp} {c : Addr} {cbs : List Cmb} (h : Cmbs H c cbs) (t : Tk H H') (e : ∀ vs, H c = some (.lst vs) → H' c = some (.lst vs)) : Cmbs H' c cbs := by
  obtain ⟨vs, a, b, d⟩ := h
  exact ⟨vs, e _ a, b, fun i v cb x y => (d i v cb x y).tk t⟩
theorem Cmbs.at_ {H : Hp} {cbs : List Cmb} {vs : List V} (h : vs.length = cbs.length ∧ ∀ (i : Nat) (v : V) (cb : Cmb), vs[i]? = some v → cbs[i]? = some cb → CmbV H cb v) {i : Nat} (hi : i < cbs.length) :
    ∃ a k, vs[i]? = some (.ref a) ∧ H a = some (.tup [.ref k, .int cbs[i].t, .str cbs[i].c]) ∧ H k = some (.tup (cbs[i].ks.map V.int)) := by
  obtain ⟨hl, hv⟩ := h
  have hi' : i < vs.length := by omega
  obtain ⟨a, k, e, h1, h2⟩ := hv i vs[i] cbs[i] (List.getElem?_eq_getElem hi') (List.getElem?_eq_getElem hi)
  exact ⟨a, k, by rw [List.getElem?_eq_getElem hi', e], h1, h2⟩
/-- combos for so many keys -/
structure CbsOk (many : Int) (cbs : List Cmb) : Prop where
  all : ∀ cb ∈ cbs, CmbOk many cb
  few : cbs.length ≤ 6
  apart : (cbs.map Cmb.ks).Nodup
theorem CbsOk.nil (many : Int) : CbsOk many [] := ⟨fun cb h => by simp at h, by decide, List.nodup_nil⟩
def ksD (ks : List Int) : PyData := .tuple (ks.map PyData.int)
def cmbD (cb : Cmb) : PyData := .tuple [ksD cb.ks, .int cb.t, .str cb.c]
def cmbsD (cbs : List Cmb) : PyData := .list (cbs.map cmbD)
theorem CmbV.dp {K : PySem.W.Frag} {H : Hp} {cb : Cmb} {v : V} (h : CmbV H cb v) : Dp K H v (cmbD cb) := by
  obtain ⟨a, k, rfl, h1, h2⟩ := h
  exact .tup (SqT.of h1) (.cons (.tup (SqT.of h2) (dpInts _)) (.cons (.int _) (.cons (.str _) .nil)))
theorem dpAll_idx {α : Type} {K : PySem.W.Frag} {H : Hp} {g : α → PyData} {R : α → V → Prop} (hg : ∀ x v, R x v → Dp K H v (g x)) : ∀ (vs : List V) (xs : List α), vs.length = xs.length → (∀ (i : Nat) (v : V) (x : α), vs[i]? = some v → xs[i]? = some x → R x v) → DpAll K H vs (xs.map g)
  | [], [], _, _ => .nil
  | [], _ :: _, h, _ => by simp at h
  | _ :: _, [], h, _ => by simp at h
  | v :: vs, x :: xs, h, f => .cons (hg x v (f 0 v x rfl rfl)) (dpAll_idx hg vs xs (by simpa using h) fun i v x a b => f (i + 1) v x (by simpa using a) (by simpa using b))
theorem Cmbs.dp {K : PySem.W.Frag} {H : Hp} {c : Addr} {cbs : List Cmb} (h : Cmbs H c cbs) : Dp K H (.ref c) (cmbsD cbs) := by
  obtain ⟨vs, a, b, d⟩ := h
  exact .lst (SqL.of a) (dpAll_idx (R := CmbV H) (fun x v h => h.dp) vs cbs b d)
theorem fit_cmb {many : Int} {cb : Cmb} (hm : many ≤ 1000) (h : CmbOk many cb) : Fit 4000 2 (cmbD cb) := by
  have hk : Fit 1000 1 (ksD cb.ks) := by
    refine Fit.mono (fit_tup (L := 210) (n := 0) fun d hd => ?_) (by rw [List.length_map]; have := h.len; omega) (Nat.le_refl _)
    obtain ⟨v, hv, rfl⟩ := List.mem_map.mp hd
    have := h.key v hv
    exact fit_int (by omega)
  have ht := h.time
  refine Fit.mono (fit_tup (L := 1000) (n := 1) fun d hd => ?_) (by show 3 * 1002 + 3 ≤ 4000; decide) (Nat.le_refl _)
  simp only [List.mem_cons, List.mem_nil_iff, or_false] at hd
  rcases hd with rfl | rfl | rfl
  · exact hk
  · exact Fit.mono (fit_int (by omega)) (by decide) (by decide)
  · exact Fit.mono (fit_code h.code) (by decide) (by decide)
theorem fit_cmbs {many : Int} {cbs : List Cmb} (hm : many ≤ 1000) (h : CbsOk many cbs) : Fit 40000 3 (cmbsD cbs) := by
  refine Fit.mono (fit_list (L := 4000) (n := 2) fun d hd => ?_) (by rw [List.length_map]; have := h.few; omega) (Nat.le_refl _)
  obtain ⟨cb, hc, rfl⟩ := List.mem_map.mp hd
  exact fit_cmb hm (h.all cb hc)
theorem lay_cmb (cb : Cmb) (hc : CodeOk cb.c) : PyData.canLay0 (cmbD cb) = true ∧ PyData.depth (cmbD cb) = 2 := by
  obtain ⟨a, b⟩ := lay_ints cb.ks
  refine ⟨?_, ?_⟩
  · show (PyData.canLayAll0 (cb.ks.map PyData.int) && (PyData.canLay0 (.int cb.t) && (PyData.canLay0 (.str cb.c) && true))) = true
    have hs : PyData.strOk cb.c = true := by
      unfold PyData.strOk
      rw [← Array.all_toList, List.all_eq_true]
      have all : ∀ y ∈ signs.cps.toList, decide (y < 0x110000) = true := by decide +kernel
      exact fun y hy => all y (hc.2.2 y hy)
    rw [a]; simp [PyData.canLay0, hs]
  · show max (PyData.depthAll (cb.ks.map PyData.int) + 1) (max 0 (max 0 0)) + 1 = 2
    rw [b]; rfl
theorem lay_cmbs : ∀ cbs : List Cmb, (∀ cb ∈ cbs, CodeOk cb.c) → PyData.canLayAll0 (cbs.map cmbD) = true ∧ PyData.depthAll (cbs.map cmbD) ≤ 2
  | [], _ => ⟨rfl, by decide⟩
  | cb :: cbs, h => by
    obtain ⟨a, b⟩ := lay_cmbs cbs fun c hc => h c (List.mem_cons_of_mem _ hc)
    obtain ⟨x, y⟩ := lay_cmb cb (h cb List.mem_cons_self)
    refine ⟨?_, ?_⟩
    · show (PyData.canLay0 (cmbD cb) && PyData.canLayAll0 (cbs.map cmbD)) = true
      rw [x, a]; rfl
    · show max (PyData.depth (cmbD cb)) (PyData.depthAll (cbs.map cmbD)) ≤ 2
      omega
theorem shaped_cmbs (cbs : List Cmb) (h : ∀ cb ∈ cbs, CodeOk cb.c) : SeqAt.shaped (cmbsD cbs) = true := by
  obtain ⟨a, b⟩ := lay_cmbs cbs h
  show (PyData.canLayAll0 (cbs.map cmbD) && decide (PyData.depthAll (cbs.map cmbD) + 1 ≤ 64)) = true
  rw [a, decide_eq_true (by omega)]; rfl
theorem shaped_ks (ks : List Int) : SeqAt.shaped (ksD ks) = true := by
  obtain ⟨a, b⟩ := lay_ints ks
  show (PyData.canLayAll0 (ks.map PyData.int) && decide (PyData.depthAll (ks.map PyData.int) + 1 ≤ 64)) = true
  rw [a, b]; rfl
theorem lay_kss : ∀ kss : List (List Int), PyData.canLayAll0 (kss.map ksD) = true ∧ PyData.depthAll (kss.map ksD) ≤ 1
  | [] => ⟨rfl, by decide⟩
  | ks :: kss => by
    obtain ⟨a, b⟩ := lay_kss kss
    obtain ⟨x, y⟩ := lay_ints ks
    refine ⟨?_, ?_⟩
    · show (PyData.canLayAll0 (ks.map PyData.int) && PyData.canLayAll0 (kss.map ksD)) = true
      rw [x, a]; rfl
    · show max (PyData.depthAll (ks.map PyData.int) + 1) (PyData.depthAll (kss.map ksD)) ≤ 1
      omega
theorem shaped_kss (kss : List (List Int)) : SeqAt.shaped (.list (kss.map ksD)) = true := by
  obtain ⟨a, b⟩ := lay_kss kss
  show (PyData.canLayAll0 (kss.map ksD) && decide (PyData.depthAll (kss.map ksD) + 1 ≤ 64)) = true
  rw [a, decide_eq_true (by omega)]; rfl
theorem eqv_intsA : ∀ xs ys : List Int, PyData.eqvAll (xs.map PyData.int) (ys.map PyData.int) = decide (xs = ys)
  | [], [] => rfl
  | [], _ :: _ => rfl
  | _ :: _, [] => rfl
  | o :: xs, p :: ys => by
    show (PyData.eqv (.int o) (.int p) && PyData.eqvAll (xs.map PyData.int) (ys.map PyData.int)) = _
    have e : PyData.eqv (.int o) (.int p) = decide (o = p) := by
      by_cases z : o = p
      · subst z; simp [PyData.eqv]
      · simp [PyData.eqv, z]
    rw [e, eqv_intsA xs ys]
    by_cases a : o = p <;> by_cases b : xs = ys <;> simp [a, b]
theorem eqv_intL (xs ys : List Int) : PyData.eqv (.list (xs.map PyData.int)) (.list (ys.map PyData.int)) = decide (xs = ys) := by rw [← eqv_intsA]; rfl
theorem eqv_ks (xs ys : List Int) : PyData.eqv (ksD xs) (ksD ys) = decide (xs = ys) := by rw [← eqv_intsA]; rfl
theorem any_ks (ks : List Int) (kss : List (List Int)) : ((kss.map ksD).any fun z => PyData.eqv z (ksD ks)) = decide (ks ∈ kss) := by
  induction kss with
  | nil => rfl
  | cons x kss ih =>
    rw [List.map_cons, List.any_cons, ih, eqv_ks]
    by_cases a : x = ks
    · subst a; simp
    · have a' : ¬ ks = x := fun e => a e.symm
      by_cases b : ks ∈ kss <;> simp [a, a', b]
/-! ### pieces -/
def Match (cb : Cmb) (s : Nat) (ds : List Ev) : Prop := cb.ks.length = s ∧ cb.ks.Perm ((ds.take s).map Ev.k) ∧ ∃ a b, ds[0]? = some a ∧ ds[s - 1]? = some b ∧ b.t < a.t + cb.t
open Classical in
noncomputable def fp (cbs : List Cmb) (ds : List Ev) : Nat := if ∃ cb ∈ cbs, Match cb 3 ds then 3 else if ∃ cb ∈ cbs, Match cb 2 ds then 2 else 1
theorem match_le {cb : Cmb} {s : Nat} {ds : List Ev} (h : Match cb s ds) : s ≤ ds.length := by
  have a := h.2.1.length_eq
  rw [h.1, List.length_map, List.length_take] at a
  omega
theorem fp_pos (cbs : List Cmb) (ds : List Ev) : 1 ≤ fp cbs ds := by
  unfold fp
  split
  · decide
  · split <;> decide
theorem fp_le (cbs : List Cmb) {ds : List Ev} (h : ds ≠ []) : fp cbs ds ≤ ds.length := by
  unfold fp
  split
  · rename_i q
    obtain ⟨cb, _, m⟩ := q
    exact match_le m
  · split
    · rename_i q
      obtain ⟨cb, _, m⟩ := q
      exact match_le m
    · cases ds with
      | nil => exact absurd rfl h
      | cons _ _ => rw [List.length_cons]; omega
theorem fp_three {cbs : List Cmb} {ds : List Ev} {cb : Cmb} (h : cb ∈ cbs) (m : Match cb 3 ds) : fp cbs ds = 3 := by unfold fp; rw [if_pos ⟨cb, h, m⟩]
theorem fp_two {cbs : List Cmb} {ds : List Ev} {cb : Cmb} (n : ∀ cb ∈ cbs, ¬ Match cb 3 ds) (h : cb ∈ cbs) (m : Match cb 2 ds) : fp cbs ds = 2 := by
  unfold fp
  rw [if_neg (fun ⟨c, hc, q⟩ => n c hc q), if_pos ⟨cb, h, m⟩]
theorem fp_one {cbs : List Cmb} {ds : List Ev} (n : ∀ cb ∈ cbs, ¬ Match cb 3 ds) (n2 : ∀ cb ∈ cbs, ¬ Match cb 2 ds) : fp cbs ds = 1 := by
  unfold fp
  rw [if_neg (fun ⟨c, hc, q⟩ => n c hc q), if_neg (fun ⟨c, hc, q⟩ => n2 c hc q)]
/-- the numbers from a on, below b -/
def seg (a b : Nat) : List Int := (List.range' a (b - a)).map fun k : Nat => (k : Int)
/-- the events from s on, below e -/
def prt (es : List Ev) (s e : Nat) : List Ev := (es.drop s).take (e - s)
inductive Cut (es : List Ev) (cbs : List Cmb) (e : Nat) : Nat → List (List Int) → Prop
  | nil : Cut es cbs e e []
  | cons {s : Nat} {r : List (List Int)} : s < e → Cut es cbs e (s + fp cbs (prt es s e)) r → Cut es cbs e s (seg s (s + fp cbs (prt es s e)) :: r)
/-- from s on, below e, all are downs -/
def Downs (es : List Ev) (s e : Nat) : Prop := ∀ i, s ≤ i → i < e → ∃ ev, es[i]? = some ev ∧ ev.d = true
def Stops (es : List Ev) (e : Nat) : Prop := e = es.length ∨ ∃ ev, es[e]? = some ev ∧ ev.d = false
inductive Due (es : List Ev) (cbs : List Cmb) : Nat → List (List Int) → Prop
  | fin {s : Nat} : es.length ≤ s → Due es cbs s []
  | up {s : Nat} {ev : Ev} {r : List (List Int)} : es[s]? = some ev → ev.d = false → Due es cbs (s + 1) r → Due es cbs s r
  | down {s e : Nat} {r : List (List Int)} : s < e → Downs es s e → Stops es e → Due es cbs (s + fp cbs (prt es s e)) r → Due es cbs s (seg s (s + fp cbs (prt es s e)) :: r)
theorem Downs.le {es : List Ev} {s e : Nat} (h : Downs es s e) (hs : s < e) : e ≤ es.length := by
  obtain ⟨ev, q, _⟩ := h (e - 1) (by omega) (by omega)
  have := (List.getElem?_eq_some_iff.mp q).1
  omega
theorem prt_len {es : List Ev} {s e : Nat} (h : e ≤ es.length) : (prt es s e).length = e - s := by
  unfold prt
  rw [List.length_take, List.length_drop]
  omega
theorem stop_uniq {es : List Ev} {s e e' : Nat} (hs : s < e) (hs' : s < e') (d : Downs es s e) (d' : Downs es s e') (t : Stops es e) (t' : Stops es e') : e = e' := by
  have l := d.le hs
  have l' := d'.le hs'
  rcases Nat.lt_trichotomy e e' with q | q | q
  · rcases t with t | ⟨ev, g, f⟩
    · omega
    · obtain ⟨ev', g', f'⟩ := d' e (by omega) q
      rw [g] at g'
      cases g'
      rw [f] at f'; cases f'
  · exact q
  · rcases t' with t | ⟨ev, g, f⟩
    · omega
    · obtain ⟨ev', g', f'⟩ := d e' (by omega) q
      rw [g] at g'
      cases g'
      rw [f] at f'; cases f'
theorem Due.uniq {es : List Ev} {cbs : List Cmb} {s : Nat} {r : List (List Int)} (h : Due es cbs s r) : ∀ {r' : List (List Int)}, Due es cbs s r' → r = r' := by
  induction h with
  | fin hl =>
    intro r' h'
    cases h' with
    | fin _ => rfl
    | up g _ _ => have := (List.getElem?_eq_some_iff.mp g).1; omega
    | down hs d _ _ => have := d.le hs; omega
  | up g f _ ih =>
    intro r' h'
    cases h' with
    | fin hl => have := (List.getElem?_eq_some_iff.mp g).1; omega
    | up g' f' h' => exact ih h'
    | down hs d _ _ =>
      obtain ⟨ev', g', f'⟩ := d _ (Nat.le_refl _) hs
      rw [g] at g'
      cases g'
      rw [f] at f'; cases f'
  | down hs d t _ ih =>
    intro r' h'
    cases h' with
    | fin hl => have := d.le hs; omega
    | up g f h' =>
      obtain ⟨ev', g', f'⟩ := d _ (Nat.le_refl _) hs
      rw [g] at g'
      cases g'
      rw [f] at f'; cases f'
    | down hs' d' t' h' =>
      have e := stop_uniq hs hs' d d' t t'
      subst e
      rw [ih h']
theorem cut_due {es : List Ev} {cbs : List Cmb} {e : Nat} (t : Stops es e) {r : List (List Int)} (hr : Due es cbs e r) {s : Nat} {r1 : List (List Int)} (h : Cut es cbs e s r1) : Downs es s e → s ≤ e → Due es cbs s (r1 ++ r) := by
  induction h with
  | nil => intro _ _; exact hr
  | @cons s r1 hs _ ih =>
    intro d _
    have hl := prt_len (s := s) (d.le hs)
    have ne : prt es s e ≠ [] := fun z => by rw [z] at hl; simp at hl; omega
    have f := fp_le cbs ne
    rw [hl] at f
    exact Due.down hs d t (ih (fun i a b => d i (by omega) b) (by omega))
end Cb

set_option Elab.async false
set_option linter.all false
set_option maxRecDepth 100000
set_option maxHeartbeats 4000000
/-! a list's slice with a step -/
namespace Gd
open PySem PySem.Spec PyProof.Rows L2
def stepIx (n : Nat) (lo hi : Option Int) (k : Int) : List Nat :=
  let b := sliceBounds lo hi (some k) n
  sliceRange b.1 b.2.1 b.2.2
def stepV {α : Type} (xs : List α) (lo hi : Option Int) (k : Int) : List α := (stepIx xs.length lo hi k).filterMap fun i => xs[i]?
def tSlK (K : PySem.W.Frag) (te : TE) (tl th ts : TO) : TE := fun σ H Q => te σ H fun x H1 => tl σ H1 fun l H2 => th σ H2 fun u H3 => ts σ H3 fun y H4 =>
  ∃ (a : Addr) (xs : List V) (k : Int), x = .ref a ∧ y = some k ∧ k ≠ 0 ∧ SqL K H4 a xs ∧ (stepV xs l u k).length ≤ xs.length ∧ ∀ p, H4 p = none → Q (.ref p) (upd H4 p (.lst (stepV xs l u k)))
theorem vals_pick {xs : List V} {us : List Value} (r : Vals xs us) : ∀ is : List Nat, Vals (is.filterMap fun i => xs[i]?) (is.filterMap fun i => us[i]?)
  | [] => .nil
  | i :: is => by
    have ih := vals_pick r is
    rw [List.filterMap_cons, List.filterMap_cons]
    cases h : xs[i]? with
    | none =>
      have : us[i]? = none := by
        rw [List.getElem?_eq_none_iff] at h ⊢
        rw [← r.length]; exact h
      rw [this]
      exact ih
    | some x =>
      obtain ⟨u, hu, ru⟩ := r.get h
      rw [hu]
      exact .cons ru ih
section
variable {X : Cx} {e : Expr} {lo hi : Option Expr} {st : Expr} {p2 pos : Pos} {te : TE} {tl th ts : TO}
theorem pe_slk (he : PE X e te) (hl : PO X lo tl) (hu : PO X hi th) (hs : PO X (some st) ts) : PE X (.Subscript e (.Slice lo hi (some st) p2) pos) (tSlK X.K te tl th ts) := by
  refine ⟨fun pins s σ H Q I h => Subscript_ (thn (he.run pins s σ H _ I h) fun v s1 z1 => ?_)⟩
  obtain ⟨x, H1, I1, r1, q1⟩ := z1
  refine wpAny_Slice (thn (hl.run pins s1 σ H1 _ I1 q1) fun vl s2 z2 => ?_)
  obtain ⟨l, H2, I2, pl, q2⟩ := z2
  refine thn (hu.run pins s2 σ H2 _ I2 q2) fun vu s3 z3 => ?_
  obtain ⟨u, H3, I3, pu, q3⟩ := z3
  refine thn (hs.run pins s3 σ H3 _ I3 q3) fun vs s4 z4 => ?_
  obtain ⟨y, H4, I4, ps, a, xs, k, rfl, rfl, k0, hx, hlen, q⟩ := z4
  have I5 : Inv X pins σ H4 { s4 with heap := s4.heap.push { cls := .type "slice", data := .fields #[vl, vu, vs] } } := I4.kept (t' := s4.toks) fun b o m => Heap.get?_push_of_some _ m
  cases r1
  obtain ⟨its, r, ht, hz⟩ := I5.list hx
  have hn := r.length
  refine tail_any (ops := [.ref a, .ref s4.heap.objs.size]) ht.isList.typeIs slot_list_getitem.lookup ?_ (by with_unfolding_all rfl)
  refine wpAny_getItem_list_slice ht.isList (Heap.IsSliceOf.new ..) pl pu ps (fun m => k0 (Option.some.inj m)) ?_ (by rw [List.size_toArray, ← hn]; exact hz)
  have er : (slicePick its.toArray l u (some k)).toList = (stepIx xs.length l u k).filterMap fun i => its[i]? := by
    unfold slicePick stepIx
    rw [List.size_toArray, hn]
    simp
  have rv := vals_pick r (stepIx xs.length l u k)
  have I6 := I5.laid (t' := s4.toks) (a := (s4.heap.push { cls := .type "slice", data := .fields #[vl, vu, vs] }).objs.size) (o := .lst (stepV xs l u k)) (h' := (s4.heap.push { cls := .type "slice", data := .fields #[vl, vu, vs] }).push { cls := .type "list", data := .seq (slicePick its.toArray l u (some k)) }) (fun b o m => Heap.get?_push_of_some _ m) (Nat.le_refl _)
    ⟨Nat.le_trans hlen (by rw [hn]; omega), _, 0, rv, by rw [← er, Array.toArray_toList]; exact Heap.get?_push_size _ rfl⟩
  exact ⟨.ref _, _, I6, rfl, q _ (I5.hok.fresh (Nat.le_refl _))⟩
end
end Gd

set_option Elab.async false
set_option linter.all false
set_option maxRecDepth 100000
set_option maxHeartbeats 8000000
/-! set(xs) of a list of ints -/
namespace Gd
open PySem PySem.Spec PyProof.Rows L2
/-- a set as it begins -/
abbrev set0 (w : World) : Obj :=
  { cls := .type "set", dict := none,
    data := .set #[] 0 (.fresh 0 0 (!w.params.followText "set-order")) }
section
variable {P : Program} {w : World} {A : Around} {E : Value → Shared → Prop} {s : Shared}
/-- the loop of set.update over a list of ints, from an empty set at S -/
theorem fill_set {h1 : Heap} {l S : Addr} {its : Array Value} {ns : List Int} {g : Array GenState} {d : Drawn} {tk : Nat} {os : OsState}
    (free : A.handled = none) (hS : h1.get? S = some (set0 w)) (hl : h1.IsList l its) (ne : S ≠ l) (hit : IntsAre its.toList ns) (small : ns.length + 1 < scanBound) :
    codeAny (model P w) A (.builtin "set.update.loop" ⟨[.ref S, .ref h1.objs.size], []⟩)
      (fun r s' => ∃ (h' : Heap) (t c : Nat), r = .ok (.ret .none) ∧ s' = ⟨h', g, d, t, os⟩ ∧ SetR w h' S (fun j => decide (j ∈ ns)) c ∧ c ≤ ns.length ∧ ∀ b o, b ≠ S → h1.get? b = some o → h'.get? b = some o)
      ⟨h1.push { cls := .type "list_iterator", data := .fields #[.ref l, .int 0 0] }, g, d, tk, os⟩ := by
  have len : its.size = ns.length := by
    have e := IntsAre.length hit
    rwa [Array.length_toList] at e
  have lS : S < h1.objs.size := Heap.lt_size hS
  obtain ⟨ol, hol, _⟩ := id hl
  have ll : l < h1.objs.size := Heap.lt_size hol
  have out : S ∉ [h1.objs.size, l] := by
    intro m
    rcases List.mem_cons.mp m with e | m
    · exact Nat.ne_of_lt lS e
    · exact ne (List.mem_singleton.mp m)
  have at_ : ∀ (i : Nat) (v : Value), its[i]? = some v → ∃ k t, ns[i]? = some k ∧ v = .int k t := by
    intro i v e
    have hi : i < ns.length := len ▸ (Array.getElem?_eq_some_iff.mp e).1
    obtain ⟨t, z⟩ := IntsAre.int_at hit i v (by rw [Array.getElem?_toList]; exact e)
    exact ⟨ns[i], t, List.getElem?_eq_getElem hi, by rw [z, List.getD_eq_getElem?_getD, List.getElem?_eq_getElem hi]; rfl⟩
  have W := (Walks.list (prog := P) (w := w) (A := A.in1) (by simp [free]) h1.objs.size l (Nat.ne_of_lt ll) its).toS
  refine set_update_ints W S out ns len small at_ its.size 0 _ (by omega) (Nat.zero_le _) ⟨⟨_, Heap.get?_push_size _ rfl, rfl, rfl⟩, hl.push _⟩ ⟨0, Nat.le_refl _, setR_new_at (Heap.get?_push_of_some _ hS)⟩ (fun s' c m hc hR => ?_)
  obtain ⟨h', g', d', t', os'⟩ := s'
  obtain rfl : g' = g := m.gens
  obtain rfl : d' = d := m.drawn
  obtain rfl : os' = os := m.os
  refine ⟨h', t', c, rfl, rfl, hR, by omega, fun b o nb e => ?_⟩
  refine m.heap b o (fun z => ?_) (Heap.get?_push_of_some _ e)
  rcases List.mem_cons.mp z with z | z
  · exact nb z
  · have := Heap.lt_size e
    rw [List.mem_singleton.mp z] at this
    exact Nat.lt_irrefl _ this
theorem set_of_list {l : Addr} {its : Array Value} {ns : List Int} {Q : Value → Shared → Prop} (free : A.handled = none) (hl : s.heap.IsList l its) (hit : IntsAre its.toList ns) (small : ns.length + 1 < scanBound)
    (q : ∀ (h' : Heap) (t c : Nat), SetR w h' s.heap.objs.size (fun j => decide (j ∈ ns)) c → c ≤ ns.length → (∀ b o, s.heap.get? b = some o → h'.get? b = some o) →
      Q (.ref s.heap.objs.size) { s with heap := h', toks := t }) : wpAny (model P w) A (call (.type "set") [.ref l]) Q E s := by
  have K := F.called_set
  obtain ⟨_, _, mro⟩ := K.mro
  have made := K.made
  have sub := K.sub
  have nt := K.notType
  have can := K.canCreate
  have tc := F.typeCall_set_1 (.ref l)
  have look := K.init.lookup
  have bnd := K.init.bind (.ref s.heap.objs.size)
  refine wpAny_call (codeAny_of_tree (show wpAny _ _ (callAny (.type "set") _) _ _ _ from wpAny_pure ⟨Code.quiet_builtin _ (by decide +kernel), codeAny_builtin F.entry_type_call ?_⟩))
  rw [Around.under_plain (weight_type_call_type "set" [.ref l] []) rfl]
  repeat (any_goals (first | assumption | wp_step))
  refine codeAny_mono (code_set_led1 (.ref l) (E := E) (Q₁ := fun o s1 => o = .ref s.heap.objs.size ∧ s1 = { s with heap := s.heap.push (set0 w) }) ⟨rfl, rfl⟩) fun r s1 hr => ?_
  match r, hr with
  | .error _, hr => exact hr
  | .ok .next, hr => exact hr.elim
  | .ok .brk, hr => exact hr.elim
  | .ok .cont, hr => exact hr.elim
  | .ok (.ret o), hr =>
    obtain ⟨e1, e2⟩ := hr
    subst e1 e2
    have hS : (s.heap.push (set0 w)).get? s.heap.objs.size = some (set0 w) := Heap.get?_push_size _ rfl
    have tS : Shared.TypeIs { s with heap := s.heap.push (set0 w) } (.ref s.heap.objs.size) "set" := ⟨_, hS, rfl⟩
    have keep0 : ∀ b o, s.heap.get? b = some o → (s.heap.push (set0 w)).get? b = some o := fun b o e => Heap.get?_push_of_some _ e
    have hl1 := hl.push (set0 w)
    repeat (any_goals (first | assumption | wp_step))
    refine codeAny_mono (codeAny_call_builtin (R := fun r s2 => ∃ (h' : Heap) (t c : Nat), r = .ok (.ret .none) ∧ s2 = ⟨h', s.gens, s.drawn, t, s.os⟩ ∧ SetR w h' s.heap.objs.size (fun j => decide (j ∈ ns)) c ∧ c ≤ ns.length ∧ ∀ b o, s.heap.get? b = some o → h'.get? b = some o)
      K.init.plain F.entry_set_init (check_set_init_1 tS ?_)) (fun r2 s2 hr2 => ?_)
    · obtain ⟨⟨ocls, odict, odata, oslots⟩, hol, hcl, nl, hdl⟩ := id hl1
      have nd : (Value.type "list" == Value.type "dict") = false := by decide
      have s1 := F.sub_list_set
      have s2 := F.sub_list_frozenset
      simp only at hcl hdl
      subst hcl
      subst hdl
      unfold Builtin.«set.__init__» noKeywords Builtin.Frozenset.updateFrom
      generalize hI : pyIter = iter
      wp_walk
      subst hI
      have nSl : s.heap.objs.size ≠ l := by
        obtain ⟨ol, z, _⟩ := hl
        exact Nat.ne_of_gt (Heap.lt_size z)
      refine wpAny_pyIter_list hl1 (wpAny_bind (wpAny_runValue (codeAny_mono (fill_set (A := A.in1.in1) (by simp [free]) hS hl1 nSl hit small) (fun r s' z => ?_))))
      obtain ⟨h', t, c, rfl, rfl, hR, hc, hk⟩ := z
      have old : ∀ b o, s.heap.get? b = some o → h'.get? b = some o := fun b o e => hk b o (Nat.ne_of_lt (Heap.lt_size e)) (keep0 b o e)
      exact wpAny_pure (wpAny_pure ⟨h', t, c, rfl, rfl, hR, hc, old⟩)
    · obtain ⟨h', t, c, rfl, rfl, hR, hc, hk⟩ := hr2
      repeat (any_goals (first | assumption | wp_step))
      exact q h' t c hR hc hk
end
/-- set(xs) of a list of ints: as many members as different numbers -/
def rSetL (K : PySem.W.Frag) (w : World) : List V → Hp → VK → Prop := fun xs H Q => ∃ (l : Addr) (ns : List Int), xs = [.ref l] ∧ SqL K H l (ns.map V.int) ∧ ns.length ≤ 1000 ∧
  ∀ (a : Addr) (c : Nat), H a = none → (∀ ds : List Int, (∀ k ∈ ns, k ∈ ds) → c ≤ ds.length) → Q (.ref a) (upd H a (SetO w a (fun j => decide (j ∈ ns)) c))
theorem setR_few {w : World} {h : Heap} {a : Addr} {ns : List Int} {c : Nat} (R : SetR w h a (fun j => decide (j ∈ ns)) c) (ds : List Int) (hd : ∀ k ∈ ns, k ∈ ds) : c ≤ ds.length := by
  obtain ⟨o, es, ep, t, _, _, _, _, nd, mem, _, _, n, _⟩ := R
  rw [← n, ← Array.length_toList, ← List.length_map (f := keyOf)]
  refine List.Nodup.length_le_of_subset nd fun k hk => ?_
  exact hd k (of_decide_eq_true ((mem k).mpr hk))
theorem cr_setL {X : Cx} (hc : X.calm = true) : CallR X (.type "set") (rSetL X.K X.w) := by
  intro pins s σ H xs us Q I r h
  obtain ⟨l, ns, rfl, hx, hn, q⟩ := h
  rw [Vals.ref1 r]
  obtain ⟨its, rv, pl, _⟩ := I.list hx
  refine set_of_list (I.ok.hd hc) pl.isList (by simpa using rv.ints) (by unfold scanBound; omega) fun h' t c R _ k => ?_
  exact ⟨.ref s.heap.objs.size, _, I.laid (t' := t) k (Nat.le_refl _) (setO_new R), rfl, q _ c (I.hok.fresh (Nat.le_refl _)) (setR_few R)⟩
end Gd

set_option Elab.async false
set_option linter.all false
set_option maxRecDepth 100000
set_option maxHeartbeats 4000000
namespace K24
open PySem PySem.Spec PyProof.Rows L2 Gd Rm La Cb
def topS (i : Nat) : Stmt := PySem.Challenge.pw_holdtap_k24_pieces_of_records.main.body.getD i (.Pass ⟨0, 0, 0, 0⟩)
abbrev s_first_piece : Stmt := topS 6
abbrev n_first_piece : List Str := ["downs", "combos", "size", "keys", "index", "combo", "tick", "key"]
theorem sc_first_piece : FnScope n_first_piece ["downs", "combos"] (defScope s_first_piece) := ⟨rfl, rfl, rfl, by decide +kernel, rfl, by decide +kernel, by decide +kernel⟩
-- 0 downs, 1 combos, 2 size, 3 keys, 4 index, 5 combo, 6 tick*, 7 key*
abbrev s_is_an_integer : Stmt := topS 8
abbrev n_is_an_integer : List Str := ["value"]
theorem sc_is_an_integer : FnScope n_is_an_integer ["value"] (defScope s_is_an_integer) := ⟨rfl, rfl, rfl, by decide +kernel, rfl, by decide +kernel, by decide +kernel⟩
-- 0 value
abbrev s_is_between : Stmt := topS 9
abbrev n_is_between : List Str := ["value", "low", "high"]
theorem sc_is_between : FnScope n_is_between ["value", "low", "high"] (defScope s_is_between) := ⟨rfl, rfl, rfl, by decide +kernel, rfl, by decide +kernel, by decide +kernel⟩
-- 0 value, 1 low, 2 high
abbrev s_are_ascending : Stmt := topS 10
abbrev n_are_ascending : List Str := ["values", "many", "at", "value"]
theorem sc_are_ascending : FnScope n_are_ascending ["values", "many"] (defScope s_are_ascending) := ⟨rfl, rfl, rfl, by decide +kernel, rfl, by decide +kernel, by decide +kernel⟩
-- 0 values*, 1 many*, 2 at*, 3 value*
abbrev s_is_code : Stmt := topS 14
abbrev n_is_code : List Str := ["value", "sign"]
theorem sc_is_code : FnScope n_is_code ["value"] (defScope s_is_code) := ⟨rfl, rfl, rfl, by decide +kernel, rfl, by decide +kernel, by decide +kernel⟩
-- 0 value, 1 sign*
abbrev s_check_record : Stmt := topS 17
abbrev n_check_record : List Str := ["value", "many", "held", "index", "event"]
theorem sc_check_record : FnScope n_check_record ["value", "many"] (defScope s_check_record) := ⟨rfl, rfl, rfl, by decide +kernel, rfl, by decide +kernel, by decide +kernel⟩
-- 0 value, 1 many, 2 held, 3 index, 4 event
abbrev s_is_short_list : Stmt := topS 18
abbrev n_is_short_list : List Str := ["value"]
theorem sc_is_short_list : FnScope n_is_short_list ["value"] (defScope s_is_short_list) := ⟨rfl, rfl, rfl, by decide +kernel, rfl, by decide +kernel, by decide +kernel⟩
-- 0 value
abbrev s_is_event : Stmt := topS 19
abbrev n_is_event : List Str := ["value", "tick", "key", "way"]
theorem sc_is_event : FnScope n_is_event ["value"] (defScope s_is_event) := ⟨rfl, rfl, rfl, by decide +kernel, rfl, by decide +kernel, by decide +kernel⟩
-- 0 value, 1 tick, 2 key, 3 way
abbrev s_is_step : Stmt := topS 20
abbrev n_is_step : List Str := ["value", "key", "way"]
theorem sc_is_step : FnScope n_is_step ["value"] (defScope s_is_step) := ⟨rfl, rfl, rfl, by decide +kernel, rfl, by decide +kernel, by decide +kernel⟩
-- 0 value, 1 key, 2 way
abbrev s_is_below : Stmt := topS 21
abbrev n_is_below : List Str := ["key", "many"]
theorem sc_is_below : FnScope n_is_below ["key", "many"] (defScope s_is_below) := ⟨rfl, rfl, rfl, by decide +kernel, rfl, by decide +kernel, by decide +kernel⟩
-- 0 key, 1 many
abbrev s_can_follow : Stmt := topS 22
abbrev n_can_follow : List Str := ["event", "last", "held"]
theorem sc_can_follow : FnScope n_can_follow ["event", "last", "held"] (defScope s_can_follow) := ⟨rfl, rfl, rfl, by decide +kernel, rfl, by decide +kernel, by decide +kernel⟩
-- 0 event, 1 last, 2 held
abbrev s_takes_turn : Stmt := topS 23
abbrev n_takes_turn : List Str := ["held", "key", "way", "goes_down"]
theorem sc_takes_turn : FnScope n_takes_turn ["held", "key", "way"] (defScope s_takes_turn) := ⟨rfl, rfl, rfl, by decide +kernel, rfl, by decide +kernel, by decide +kernel⟩
-- 0 held, 1 key, 2 way, 3 goes_down
abbrev s_pieces : Stmt := topS 28
abbrev n_pieces : List Str := ["many", "combos", "record", "found", "run", "number", "event"]
theorem sc_pieces : FnScope n_pieces ["many", "combos", "record"] (defScope s_pieces) := ⟨rfl, rfl, rfl, by decide +kernel, rfl, by decide +kernel, by decide +kernel⟩
-- 0 many, 1 combos, 2 record, 3 found, 4 run, 5 number, 6 event
abbrev s_cut : Stmt := topS 29
abbrev n_cut : List Str := ["record", "numbers", "combos", "found", "rest", "downs", "size", "_", "number"]
theorem sc_cut : FnScope n_cut ["record", "numbers", "combos"] (defScope s_cut) := ⟨rfl, rfl, rfl, by decide +kernel, rfl, by decide +kernel, by decide +kernel⟩
-- 0 record*, 1 numbers, 2 combos, 3 found, 4 rest, 5 downs, 6 size, 7 _, 8 number*
abbrev s_check_gate : Stmt := topS 30
abbrev n_check_gate : List Str := ["many", "combos", "record"]
theorem sc_check_gate : FnScope n_check_gate ["many", "combos", "record"] (defScope s_check_gate) := ⟨rfl, rfl, rfl, by decide +kernel, rfl, by decide +kernel, by decide +kernel⟩
-- 0 many, 1 combos, 2 record
abbrev s_check_many : Stmt := topS 31
abbrev n_check_many : List Str := ["many"]
theorem sc_check_many : FnScope n_check_many ["many"] (defScope s_check_many) := ⟨rfl, rfl, rfl, by decide +kernel, rfl, by decide +kernel, by decide +kernel⟩
-- 0 many
abbrev s_check_combos : Stmt := topS 32
abbrev n_check_combos : List Str := ["value", "many", "known", "index", "combo"]
theorem sc_check_combos : FnScope n_check_combos ["value", "many"] (defScope s_check_combos) := ⟨rfl, rfl, rfl, by decide +kernel, rfl, by decide +kernel, by decide +kernel⟩
-- 0 value, 1 many, 2 known, 3 index, 4 combo
abbrev s_is_combo : Stmt := topS 33
abbrev n_is_combo : List Str := ["value", "many", "keys", "time", "code"]
theorem sc_is_combo : FnScope n_is_combo ["value", "many"] (defScope s_is_combo) := ⟨rfl, rfl, rfl, by decide +kernel, rfl, by decide +kernel, by decide +kernel⟩
-- 0 value, 1 many, 2 keys, 3 time, 4 code
abbrev s_are_combo_keys : Stmt := topS 34
abbrev n_are_combo_keys : List Str := ["value", "many"]
theorem sc_are_combo_keys : FnScope n_are_combo_keys ["value", "many"] (defScope s_are_combo_keys) := ⟨rfl, rfl, rfl, by decide +kernel, rfl, by decide +kernel, by decide +kernel⟩
-- 0 value, 1 many
abbrev s__law_spring : Stmt := topS 36
abbrev n__law_spring : List Str := ["_law_script", "_law_k", "_law_cell"]
theorem sc__law_spring : FnScope n__law_spring ["_law_script", "_law_k"] (defScope s__law_spring) := ⟨rfl, rfl, rfl, by decide +kernel, rfl, by decide +kernel, by decide +kernel⟩
-- 0 _law_script, 1 _law_k, 2 _law_cell
abbrev s__law_take : Stmt := topS 37
abbrev n__law_take : List Str := ["_law_spring_here", "_law_many", "_law_digit", "_law_mixed"]
theorem sc__law_take : FnScope n__law_take ["_law_spring_here", "_law_many"] (defScope s__law_take) := ⟨rfl, rfl, rfl, by decide +kernel, rfl, by decide +kernel, by decide +kernel⟩
-- 0 _law_spring_here, 1 _law_many, 2 _law_digit, 3 _law_mixed
abbrev s__law_combos : Stmt := topS 38
abbrev n__law_combos : List Str := ["_law_spring_here", "_law_many", "_law_top", "_law_found", "_law_turn", "_law_some", "_law_size", "_law_keys", "_law_time", "_law_code_here", "_law_combo", "_law_part"]
theorem sc__law_combos : FnScope n__law_combos ["_law_spring_here", "_law_many", "_law_top"] (defScope s__law_combos) := ⟨rfl, rfl, rfl, by decide +kernel, rfl, by decide +kernel, by decide +kernel⟩
-- 0 _law_spring_here*, 1 _law_many, 2 _law_top, 3 _law_found, 4 _law_turn, 5 _law_some*, 6 _law_size, 7 _law_keys, 8 _law_time, 9 _law_code_here, 10 _law_combo*, 11 _law_part*
abbrev s__law_space : Stmt := topS 39
abbrev n__law_space : List Str := ["_law_spring_here", "_law_times", "_law_time"]
theorem sc__law_space : FnScope n__law_space ["_law_spring_here", "_law_times"] (defScope s__law_space) := ⟨rfl, rfl, rfl, by decide +kernel, rfl, by decide +kernel, by decide +kernel⟩
-- 0 _law_spring_here, 1 _law_times, 2 _law_time
abbrev s__law_presses : Stmt := topS 40
abbrev n__law_presses : List Str := ["_law_spring_here", "_law_many", "_law_events", "_law_times", "_law_tick", "_law_down", "_law_found", "_law_keys", "_law_turn", "_law_key", "_law_free", "_law_way", "_law_some", "_law_one"]
theorem sc__law_presses : FnScope n__law_presses ["_law_spring_here", "_law_many", "_law_events", "_law_times"] (defScope s__law_presses) := ⟨rfl, rfl, rfl, by decide +kernel, rfl, by decide +kernel, by decide +kernel⟩
-- 0 _law_spring_here, 1 _law_many, 2 _law_events, 3 _law_times, 4 _law_tick, 5 _law_down*, 6 _law_found, 7 _law_keys, 8 _law_turn, 9 _law_key*, 10 _law_free, 11 _law_way, 12 _law_some, 13 _law_one*
abbrev s__law_cut : Stmt := topS 41
abbrev n__law_cut : List Str := ["_law_combos_here", "_law_downs", "_law_size", "_law_keys", "_law_spot", "_law_combo", "_law_tick", "_law_key", "_law_way"]
theorem sc__law_cut : FnScope n__law_cut ["_law_combos_here", "_law_downs"] (defScope s__law_cut) := ⟨rfl, rfl, rfl, by decide +kernel, rfl, by decide +kernel, by decide +kernel⟩
-- 0 _law_combos_here, 1 _law_downs, 2 _law_size, 3 _law_keys, 4 _law_spot, 5 _law_combo, 6 _law_tick*, 7 _law_key*, 8 _law_way*
abbrev s__law_due : Stmt := topS 42
abbrev n__law_due : List Str := ["_law_combos_here", "_law_record", "_law_found", "_law_first", "_law_run", "_law_size"]
theorem sc__law_due : FnScope n__law_due ["_law_combos_here", "_law_record"] (defScope s__law_due) := ⟨rfl, rfl, rfl, by decide +kernel, rfl, by decide +kernel, by decide +kernel⟩
-- 0 _law_combos_here, 1 _law_record, 2 _law_found, 3 _law_first, 4 _law_run, 5 _law_size
abbrev s__law_right : Stmt := topS 43
abbrev n__law_right : List Str := ["_law_many", "_law_combos_here", "_law_record", "_law_kept", "_law_due_here", "_law_found"]
theorem sc__law_right : FnScope n__law_right ["_law_many", "_law_combos_here", "_law_record"] (defScope s__law_right) := ⟨rfl, rfl, rfl, by decide +kernel, rfl, by decide +kernel, by decide +kernel⟩
-- 0 _law_many, 1 _law_combos_here, 2 _law_record, 3 _law_kept, 4 _law_due_here, 5 _law_found
abbrev s_law : Stmt := topS 44
abbrev n_law : List Str := ["_law_script", "_law_k", "_law_spring_here", "_law_many", "_law_combos_here", "_law_events", "_law_record", "_law_turn", "_law_spot", "_law_combo"]
theorem sc_law : FnScope n_law ["_law_script"] (defScope s_law) := ⟨rfl, rfl, rfl, by decide +kernel, rfl, by decide +kernel, by decide +kernel⟩
-- 0 _law_script, 1 _law_k, 2 _law_spring_here, 3 _law_many, 4 _law_combos_here, 5 _law_events, 6 _law_record, 7 _law_turn, 8 _law_spot, 9 _law_combo*

/-! ### the spring -/
def Reel (H : Hp) (r : Addr) (n : Nat) : Prop := ∃ x y z : Int, H r = some (.lst [.int x, .int y, .int z]) ∧ 0 ≤ x ∧ 0 ≤ y ∧ y < 10 ^ 41 ∧ 0 ≤ z ∧ z ≤ (n : Int)
theorem Reel.mono {H : Hp} {r : Addr} {n m : Nat} (h : Reel H r n) (l : n ≤ m) : Reel H r m := by
  obtain ⟨x, y, z, a, b, c, d, e, f⟩ := h
  exact ⟨x, y, z, a, b, c, d, e, by omega⟩
theorem Reel.same {H H' : Hp} {r : Addr} {n : Nat} (h : Reel H r n) (l : Same H H') : Reel H' r n := by
  obtain ⟨x, y, z, a, b⟩ := h
  exact ⟨x, y, z, l _ _ a, b⟩
theorem Reel.upd {H : Hp} {r b : Addr} {n : Nat} {o : HO} (h : Reel H r n) (ne : b ≠ r) : Reel (upd H b o) r n := by
  obtain ⟨x, y, z, g, g'⟩ := h
  exact ⟨x, y, z, by rw [upd_ne ne.symm]; exact g, g'⟩
theorem Reel.new {H : Hp} {r b : Addr} {n : Nat} (h : Reel H r n) (nb : H b = none) : b ≠ r := by
  obtain ⟨_, _, _, hr, _⟩ := h
  exact (ne_of_none hr nb).symm
theorem Reel.free {H H1 : Hp} {r b : Addr} {n : Nat} (o : Off r H H1) (h : Reel H1 r n) (nb : H1 b = none) : H b = none := by
  obtain ⟨_, _, _, hr, _⟩ := h
  exact o.free hr nb
theorem Reel.lst {α : Type} {f : α → List V} {H H' : Hp} {r c : Addr} {n : Nat} {es : List α} (h : Reel H r n) (hl : Lst f H c es) (ne : c ≠ r) (o : Off r H H') : Lst f H' c es := by
  obtain ⟨_, _, _, hr, _⟩ := h
  exact hl.off hr ne o
theorem Reel.tk {H H' : Hp} {r : Addr} {n : Nat} (h : Reel H r n) (o : Off r H H') : Tk H H' := fun b xs e => o _ _ e (by
  obtain ⟨x, y, z, hr, _⟩ := h
  exact ne_of e hr (by intro q; cases q))
/-- the draws so far are fewer than this -/
abbrev most : Nat := 1000000000
def spDraw : Sp := fun vs H Q _ => ∃ (r : Addr) (m : Int) (n : Nat), vs = [.ref r, .int m] ∧ 0 < m ∧ m < 10 ^ 40 ∧ n < most ∧ Reel H r n ∧
  ∀ d H', 0 ≤ d → d < m → Reel H' r (n + 1) → Off r H H' → Q (.int d) H'
structure Bt (mg : Str → Option Value) : Prop where
  m_len : mg "len" = none
  m_max : mg "max" = none
  m_min : mg "min" = none
  m_repr : mg "repr" = none
  m_isinstance : mg "isinstance" = none
  m_all : mg "all" = none
  m_list : mg "list" = none
  m_tuple : mg "tuple" = none
  m_int : mg "int" = none
  m_bool : mg "bool" = none
  m_str : mg "str" = none
  m_range : mg "range" = none
  m_enumerate : mg "enumerate" = none
  m_sorted : mg "sorted" = none
section
variable {P : Program} {w : World} {K : PySem.W.Frag} {mg : Str → Option Value} {base : Heap}
theorem ok__law_take (a : At K mg "_law_take" s__law_take ["_law_spring_here", "_law_many"]) : Cl P w K mg base 1 "_law_take" spDraw := by
  refine clG a sc__law_take (fun vs H Q E h => ?_) (fun f cdv A outer s H vs Q hg hr h => ?_)
  · obtain ⟨r, m, n, rfl, _⟩ := h
    rfl
  · obtain ⟨r, m, n, rfl, hm, hm2, hn0, ⟨x, y, z, hR, hx, hy, hy2, hz, hz2⟩, q⟩ := h
    have hn : n < 1000000000 := hn0
    refine ⟨_, (pss_cons (ps_if (pt_cmpR op_gt (pe_ix ix_list (pv 0) pe_int (fun _ _ => rfl)) pe_int (nomark _)) (pss_cons (ps_set (i := 2) sc__law_take.nd rfl (Or.inl rfl) (pe_op op_mod (pe_ix ix_list (pv 0) pe_int (fun _ _ => rfl)) (pv 1)))
      (pss_cons (ps_asg (pe_op op_fdivW (pe_ix ix_list (pv 0) pe_int (fun _ _ => rfl)) (pv 1)) (pg_sub (pv 0) pe_int set_list))
      (pss_one (ps_ret (pv 2))))) pss_nil)
      (pss_cons (ps_asg (pe_op op_add (pe_ix ix_list (pv 0) pe_int (fun _ _ => rfl)) pe_int) (pg_sub (pv 0) pe_int set_list))
      (pss_cons (ps_set (i := 3) sc__law_take.nd rfl (Or.inl rfl) (pe_op op_mod (pe_op op_powW (pe_op op_add (pe_ix ix_list (pv 0) pe_int (fun _ _ => rfl)) (pe_op op_mulW pe_int (pe_ix ix_list (pv 0) pe_int (fun _ _ => rfl)))) pe_int) (pe_op op_add (pe_op op_powW pe_int pe_int) pe_int)))
      (pss_cons (ps_set (i := 3) sc__law_take.nd rfl (Or.inl rfl) (pe_op op_mod (pe_op op_powW (pe_op op_add (pv 3) (pe_op op_mulW pe_int (pe_ix ix_list (pv 0) pe_int (fun _ _ => rfl)))) pe_int) (pe_op op_add (pe_op op_powW pe_int pe_int) pe_int)))
      (pss_one (ps_ret (pe_op op_mod (pe_op op_fdivW (pv 3) (pe_op op_powW pe_int pe_int)) (pv 1)))))))), ?_⟩
    refine ⟨_, rfl, r, _, 0, _, rfl, rfl, SqL.of hR, atI_nat (j := 0) rfl, ?_⟩
    refine ⟨_, _, rfl, rfl, _, rfl, ite2 (fun e => ?_) (fun e => ?_)⟩
    · have e0 : 0 < x := of_decide_eq_true e
      refine ⟨_, rfl, r, _, 0, _, rfl, rfl, SqL.of hR, atI_nat (j := 0) rfl, _, rfl, _, _, rfl, rfl, hm, ?_⟩
      refine ⟨_, rfl, r, _, 0, _, rfl, rfl, SqL.of hR, atI_nat (j := 0) rfl, _, rfl, _, _, rfl, rfl, wide_div (b := 140) hm (by omega) (by decide) (by decide), ?_⟩
      refine ⟨_, rfl, r, _, 0, 0, rfl, rfl, hR, rfl, ?_⟩
      refine ⟨_, rfl, q _ _ (Int.emod_nonneg _ (by omega)) (Int.emod_lt_of_pos _ hm) ⟨x / m, y, z, upd_same, Int.ediv_nonneg hx (by omega), hy, hy2, hz, by omega⟩ off_upd⟩
    · refine ⟨_, rfl, r, _, 2, _, rfl, rfl, SqL.of hR, atI_nat (j := 2) rfl, _, _, rfl, rfl, ?_⟩
      refine ⟨_, rfl, r, _, 2, 2, rfl, rfl, hR, rfl, ?_⟩
      have hR1 : upd H r (.lst [.int x, .int y, .int (z + 1)]) r = some (.lst [.int x, .int y, .int (z + 1)]) := upd_same
      refine ⟨_, rfl, r, _, 1, _, rfl, rfl, SqL.of hR1, atI_nat (j := 1) rfl, ?_⟩
      refine ⟨_, rfl, r, _, 2, _, rfl, rfl, SqL.of hR1, atI_nat (j := 2) rfl, ?_⟩
      have b1 : (z + 1).natAbs < 2 ^ 40 := by omega
      have b2 : (73939133 * (z + 1)).natAbs < 2 ^ 80 := by omega
      refine ⟨_, _, rfl, rfl, wide_mul (a := 40) (b := 40) (by decide) b1 (by decide) (by decide) (by decide), ?_⟩
      refine ⟨_, _, rfl, rfl, ?_⟩
      have b3 : (y + 73939133 * (z + 1)).natAbs < 2 ^ 150 := by omega
      refine ⟨_, _, rfl, rfl, powW (n := 150) (k := 3) b3 (by decide), ?_⟩
      refine ⟨_, _, rfl, rfl, powW (n := 40) (k := 40) (by decide) (by decide), _, _, rfl, rfl, _, _, rfl, rfl, (show (0 : Int) < 10 ^ 40 + 3 by decide), ?_⟩
      have c1 : 0 ≤ (y + 73939133 * (z + 1)) ^ 3 % (10 ^ 40 + 3) := Int.emod_nonneg _ (by decide)
      have c2 : (y + 73939133 * (z + 1)) ^ 3 % (10 ^ 40 + 3) < 10 ^ 40 + 3 := Int.emod_lt_of_pos _ (by decide)
      generalize hu : (y + 73939133 * (z + 1)) ^ 3 % (10 ^ 40 + 3) = u at c1 c2
      refine ⟨.int u, congrArg (fun v => some (some (V.int v))) hu, ?_⟩
      refine ⟨_, rfl, r, _, 2, _, rfl, rfl, SqL.of hR1, atI_nat (j := 2) rfl, ?_⟩
      have b4 : (29986577 * (z + 1)).natAbs < 2 ^ 80 := by omega
      refine ⟨_, _, rfl, rfl, wide_mul (a := 40) (b := 40) (by decide) b1 (by decide) (by decide) (by decide), ?_⟩
      have b5 : (u + 29986577 * (z + 1)).natAbs < 2 ^ 150 := by omega
      refine ⟨_, _, rfl, rfl, _, _, rfl, rfl, powW (n := 150) (k := 2) b5 (by decide), ?_⟩
      refine ⟨_, _, rfl, rfl, powW (n := 40) (k := 37) (by decide) (by decide), _, _, rfl, rfl, _, _, rfl, rfl, (show (0 : Int) < 10 ^ 37 + 43 by decide), ?_⟩
      refine ⟨_, rfl, _, _, rfl, rfl, powW (n := 40) (k := 7) (by decide) (by decide), _, _, rfl, rfl, wide_div (b := 40) (by decide) (by decide) (by decide) (by decide), ?_⟩
      refine ⟨_, rfl, _, _, rfl, rfl, hm, ?_⟩
      exact q _ _ (Int.emod_nonneg _ (by omega)) (Int.emod_lt_of_pos _ hm) ⟨x, y, z + 1, upd_same, hx, hy, hy2, by omega, by omega⟩ off_upd
def spPool (K : PySem.W.Frag) : Sp := fun vs H Q _ => ∃ (s : Addr) (ns : List Int) (i : Nat), vs = [.ref s, .int (i : Int)] ∧ SqL K H s (ns.map V.int) ∧ ns.length ≤ 63 ∧ i < 60 ∧
  ∀ r H', Same H H' → H r = none → Reel H' r 0 → Q (.ref r) H'
theorem ok__law_spring (bt : Bt mg) (a : At K mg "_law_spring" s__law_spring ["_law_script", "_law_k"]) : Cl P w K mg base 1 "_law_spring" (spPool K) := by
  refine clG a sc__law_spring (fun vs H Q E h => ?_) (fun f cdv A outer s H vs Q hg hr h => ?_)
  · obtain ⟨r, m, n, rfl, _⟩ := h
    rfl
  · obtain ⟨sc, ns, i, rfl, hS, hl, hi, q⟩ := h
    refine ⟨_, (pss_cons (ps_set (i := 2) sc__law_spring.nd rfl (Or.inl rfl) (pe_ifExp (pt_cmpR op_lt (pv 1) (pe_callB call_len_seq (by rfl) bt.m_len (by decide +kernel) (pa_cons (pv 0) pa_nil)) (nomark _)) (pe_ix ix_list (pv 0) (pv 1) (fun _ _ => rfl)) pe_int))
      (pss_one (ps_ret (pe_lst (pa_cons (pe_callB (call_max2 rfl) (by rfl) bt.m_max (by decide +kernel) (pa_cons pe_int (pa_cons (pe_op op_sub (pv 2) (pe_op op_powW pe_int pe_int)) pa_nil))) (pa_cons (pe_op op_add (pe_op op_mulW (pe_op op_add (pe_op op_mod (pv 2) (pe_op op_add (pe_op op_powW pe_int pe_int) pe_int)) pe_int) pe_int) (pv 1)) (pa_cons pe_int pa_nil))))))), ?_⟩
    have bb : ∀ c : Int, 0 ≤ (c % (10 ^ 37 + 63) + 7) * 64 + (i : Int) ∧ (c % (10 ^ 37 + 63) + 7) * 64 + (i : Int) < 10 ^ 41 := fun c => by
      have a1 := Int.emod_nonneg c (b := 10 ^ 37 + 63) (by decide)
      have a2 := Int.emod_lt_of_pos c (b := 10 ^ 37 + 63) (by decide)
      omega
    have b2 : ∀ c : Int, (c % (10 ^ 37 + 63) + 7).natAbs < 2 ^ 140 := fun c => by
      have a1 := Int.emod_nonneg c (b := 10 ^ 37 + 63) (by decide)
      have a2 := Int.emod_lt_of_pos c (b := 10 ^ 37 + 63) (by decide)
      omega
    refine ⟨_, rfl, .ref sc, rfl, sc, _, rfl, .inl hS, _, _, rfl, rfl, _, rfl, ite2 (fun e => ?_) (fun e => ?_)⟩
    · have e0 : (i : Int) < ((ns.map V.int).length : Nat) := of_decide_eq_true e
      rw [List.length_map] at e0
      have hlt : i < ns.length := by omega
      have g : (ns.map V.int)[i]? = some (.int ns[i]) := by
        rw [List.getElem?_map, List.getElem?_eq_getElem hlt]; rfl
      refine ⟨_, rfl, _, rfl, sc, _, (i : Int), _, rfl, rfl, hS, atI_nat g, ?_⟩
      refine ⟨_, rfl, _, _, rfl, rfl, powW (n := 40) (k := 18) (by decide) (by decide), _, _, rfl, rfl, _, _, rfl, ?_⟩
      refine ⟨_, rfl, _, _, rfl, rfl, powW (n := 40) (k := 37) (by decide) (by decide), _, _, rfl, rfl, _, _, rfl, rfl, (show (0 : Int) < 10 ^ 37 + 63 by decide), _, _, rfl, rfl, _, _, rfl, rfl, wide_mul (a := 140) (b := 40) (b2 ns[i]) (by decide) (by decide) (by decide) (by decide), _, rfl, _, _, rfl, rfl, (by show 3 ≤ sizeLine; decide), fun p np => ?_⟩
      exact q p _ (same_upd np) np ⟨_, _, 0, upd_same, by split <;> omega, (bb ns[i]).1, (bb ns[i]).2, by decide, by decide⟩
    · refine ⟨_, rfl, _, _, rfl, rfl, powW (n := 40) (k := 18) (by decide) (by decide), _, _, rfl, rfl, _, _, rfl, ?_⟩
      refine ⟨_, rfl, _, _, rfl, rfl, powW (n := 40) (k := 37) (by decide) (by decide), _, _, rfl, rfl, _, _, rfl, rfl, (show (0 : Int) < 10 ^ 37 + 63 by decide), _, _, rfl, rfl, _, _, rfl, rfl, wide_mul (a := 140) (b := 40) (b2 0) (by decide) (by decide) (by decide) (by decide), _, rfl, _, _, rfl, rfl, (by show 3 ≤ sizeLine; decide), fun p np => ?_⟩
      exact q p _ (same_upd np) np ⟨_, _, 0, upd_same, by split <;> omega, (bb 0).1, (bb 0).2, by decide, by decide⟩
end
end K24

set_option Elab.async false
set_option linter.all false
set_option maxRecDepth 100000
set_option maxHeartbeats 8000000
namespace K24
open PySem PySem.Spec PyProof.Rows L2 Gd Rm La Cb
theorem allT (m : Nat) : (List.replicate m true).all id = true := by
  rw [List.all_eq_true]
  intro x hx
  exact (List.mem_replicate.mp hx).2
theorem ixN_nat {n j : Nat} (hj : j < n) : ixN n (j : Int) = some j := by unfold ixN; rw [if_pos (by omega), if_pos (by omega), Int.toNat_natCast]
theorem get_map_ref {as : List Addr} {i : Nat} {b : Addr} (h : as[i]? = some b) : (as.map V.ref)[i]? = some (.ref b) := by rw [List.getElem?_map, h]; rfl
theorem get_map_int {ns : List Int} {i : Nat} {b : Int} (h : ns[i]? = some b) : (ns.map V.int)[i]? = some (.int b) := by rw [List.getElem?_map, h]; rfl
theorem cutTake {xs : List V} {k : Nat} : cutV xs none (some (k : Int)) = xs.take k := by
  unfold cutV
  rw [HT.sIx_none, HT.sIx_nat, List.drop_zero, Nat.sub_zero]
  rcases Nat.le_total k xs.length with h | h
  · rw [Nat.min_eq_left h]
  · rw [Nat.min_eq_right h, List.take_of_length_le (Nat.le_refl _), List.take_of_length_le h]
theorem cutDrop {xs : List V} {k : Nat} (h1 : k ≤ xs.length) : cutV xs (some (k : Int)) none = xs.drop k := by
  unfold cutV
  rw [HT.sIx_none, HT.sIx_nat, Nat.min_eq_left h1]
  exact List.take_of_length_le (by rw [List.length_drop]; omega)
section
variable {P : Program} {w : World} {K : PySem.W.Frag} {mg : Str → Option Value} {base : Heap}
def spInt : Sp := fun vs H Q _ => ∃ i : Int, vs = [.int i] ∧ Q (.bl true) H
theorem ok_is_an_integer (bt : Bt mg) (a : At K mg "is_an_integer" s_is_an_integer ["value"]) : Cl P w K mg base 1 "is_an_integer" spInt := by
  refine clG a sc_is_an_integer (fun vs H Q E h => ?_) (fun f cdv A outer s H vs Q hg hr h => ?_)
  · obtain ⟨i, rfl, _⟩ := h
    rfl
  · obtain ⟨i, rfl, q⟩ := h
    refine ⟨_, (pss_one (ps_ret (pe_and (pe_callB call_isi (by rfl) bt.m_isinstance (by decide +kernel) (pa_cons (pv 0) (pa_cons (pe_bltn (v := .ty "int") (by rfl) bt.m_int (by decide +kernel) rfl) pa_nil))) (pe_one (pe_not (pe_callB call_isi (by rfl) bt.m_isinstance (by decide +kernel) (pa_cons (pv 0) (pa_cons (pe_bltn (v := .ty "bool") (by rfl) bt.m_bool (by decide +kernel) rfl) pa_nil)))))))), ?_⟩
    refine ⟨_, rfl, _, _, _, _, true, rfl, .ty "int", .base (.int i), kit_ty (by decide +kernel), _, rfl, iteT ?_⟩
    exact ⟨_, rfl, _, _, _, _, false, rfl, .ty "bool", .base (.int i), kit_ty (by decide +kernel), _, rfl, q⟩
def spBtw : Sp := fun vs H Q _ => ∃ i lo hi : Int, vs = [.int i, .int lo, .int hi] ∧ lo ≤ i ∧ i ≤ hi ∧ Q (.bl true) H
theorem ok_is_between (a : At K mg "is_between" s_is_between ["value", "low", "high"]) (c_is_an_integer : Cl P w K mg base 1 "is_an_integer" spInt) : Cl P w K mg base 2 "is_between" spBtw := by
  refine clG a sc_is_between (fun vs H Q E h => ?_) (fun f cdv A outer s H vs Q hg hr h => ?_)
  · obtain ⟨i, lo, hi, rfl, _⟩ := h
    rfl
  · obtain ⟨i, lo, hi, rfl, h1, h2, q⟩ := h
    refine ⟨_, (pss_one (ps_ret (pe_and (pe_cl c_is_an_integer hg hr (by decide) (by rfl) (pa_cons (pv 0) pa_nil)) (pe_one (pe_chain op_le op_le (pv 1) (pv 0) (pv 2)))))), ?_⟩
    refine ⟨_, rfl, _, rfl, _, rfl, iteT ?_⟩
    exact ⟨_, rfl, _, rfl, _, _, rfl, rfl, true, congrArg V.bl (decide_eq_true h1), iteT ⟨_, rfl, _, _, rfl, rfl, by show Q (.bl (decide (i ≤ hi))) H; rw [decide_eq_true h2]; exact q⟩⟩
theorem down_or_up (d : Bool) : inV (.str (wayS d)) [.str "down", .str "up"] = true := by cases d <;> decide +kernel
def spStep : Sp := fun vs H Q _ => ∃ (a : Addr) (e : Ev), vs = [.ref a] ∧ H a = some (.tup (stV e)) ∧ 0 ≤ e.k ∧ ∀ H', Same H H' → Q (.bl true) H'
theorem ok_is_step (bt : Bt mg) (a : At K mg "is_step" s_is_step ["value"]) (c_is_an_integer : Cl P w K mg base 1 "is_an_integer" spInt) : Cl P w K mg base 2 "is_step" spStep := by
  refine clG a sc_is_step (fun vs H Q E h => ?_) (fun f cdv A outer s H vs Q hg hr h => ?_)
  · obtain ⟨a, e, rfl, _⟩ := h
    rfl
  · obtain ⟨a, e, rfl, ha, h0, q⟩ := h
    refine ⟨_, (pss_cons (ps_if (PW.pt (pw_or (pt_not (pt_val (pe_callB call_isi (by rfl) bt.m_isinstance (by decide +kernel) (pa_cons (pv 0) (pa_cons (pe_bltn (v := .ty "tuple") (by rfl) bt.m_tuple (by decide +kernel) rfl) pa_nil))))) (pw_or1 (pt_cmpR op_ne (pe_callB call_len_seq (by rfl) bt.m_len (by decide +kernel) (pa_cons (pv 0) pa_nil)) pe_int (nomark _))))) (pss_one (ps_ret pe_bl)) pss_nil)
      (pss_cons (ps_asg (pv 0) (pg_tup rfl (pgs_cons (pg_name (i := 1) sc_is_step.nd rfl (Or.inl rfl)) (pgs_cons (pg_name (i := 2) sc_is_step.nd rfl (Or.inl rfl)) pgs_nil))))
      (pss_one (ps_ret (pe_and (pe_cl c_is_an_integer hg hr (by decide) (by rfl) (pa_cons (pv 1) pa_nil)) (pe_and (pe_cmpR op_ge (pv 1) pe_int (nomark _)) (pe_and (pe_callB call_isi (by rfl) bt.m_isinstance (by decide +kernel) (pa_cons (pv 2) (pa_cons (pe_bltn (v := .ty "str") (by rfl) bt.m_str (by decide +kernel) rfl) pa_nil))) (pe_one (pe_cmpR op_in_seq (pv 2) (pe_tup (pa_cons pe_str (pa_cons pe_str pa_nil))) (by rfl)))))))))), ?_⟩
    refine ⟨_, rfl, _, _, _, _, true, rfl, .ty "tuple", .base (.tup ha), kit_ty (by decide +kernel), _, rfl, iteF ?_⟩
    refine ⟨_, rfl, a, _, rfl, .inr (SqT.of ha), rfl, _, rfl, iteF ?_⟩
    refine ⟨_, rfl, a, _, rfl, SqT.of ha, rfl, _, _, rfl, _, _, rfl, rfl, ?_⟩
    refine ⟨_, rfl, _, rfl, _, rfl, iteT ?_⟩
    refine ⟨_, rfl, _, _, rfl, rfl, true, congrArg V.bl (decide_eq_true h0), iteT ?_⟩
    refine ⟨_, rfl, _, _, _, _, true, rfl, .ty "str", .base (.str _), kit_ty (by decide +kernel), _, rfl, iteT ?_⟩
    refine ⟨_, rfl, (by show 2 ≤ sizeLine; decide), fun p np => ?_⟩
    refine ⟨p, _, rfl, .inr (SqT.of upd_same), rfl, rfl, ?_⟩
    have hd := down_or_up e.d
    show Q (.bl (inV (.str (wayS e.d)) [.str "down", .str "up"])) _
    rw [hd]
    exact q _ (same_upd np)
def spEvent : Sp := fun vs H Q _ => ∃ (a : Addr) (e : Ev), vs = [.ref a] ∧ H a = some (.tup (evV e)) ∧ 0 ≤ e.k ∧ ∀ H', Same H H' → Q (.bl true) H'
theorem ok_is_event (bt : Bt mg) (a : At K mg "is_event" s_is_event ["value"]) (c_is_an_integer : Cl P w K mg base 1 "is_an_integer" spInt) (c_is_step : Cl P w K mg base 2 "is_step" spStep) : Cl P w K mg base 3 "is_event" spEvent := by
  refine clG a sc_is_event (fun vs H Q E h => ?_) (fun f cdv A outer s H vs Q hg hr h => ?_)
  · obtain ⟨a, e, rfl, _⟩ := h
    rfl
  · obtain ⟨a, e, rfl, ha, h0, q⟩ := h
    refine ⟨_, (pss_cons (ps_if (PW.pt (pw_or (pt_not (pt_val (pe_callB call_isi (by rfl) bt.m_isinstance (by decide +kernel) (pa_cons (pv 0) (pa_cons (pe_bltn (v := .ty "tuple") (by rfl) bt.m_tuple (by decide +kernel) rfl) pa_nil))))) (pw_or1 (pt_cmpR op_ne (pe_callB call_len_seq (by rfl) bt.m_len (by decide +kernel) (pa_cons (pv 0) pa_nil)) pe_int (nomark _))))) (pss_one (ps_ret pe_bl)) pss_nil)
      (pss_cons (ps_asg (pv 0) (pg_tup rfl (pgs_cons (pg_name (i := 1) sc_is_event.nd rfl (Or.inl rfl)) (pgs_cons (pg_name (i := 2) sc_is_event.nd rfl (Or.inl rfl)) (pgs_cons (pg_name (i := 3) sc_is_event.nd rfl (Or.inl rfl)) pgs_nil)))))
      (pss_one (ps_ret (pe_and (pe_cl c_is_an_integer hg hr (by decide) (by rfl) (pa_cons (pv 1) pa_nil)) (pe_one (pe_cl c_is_step hg hr (by decide) (by rfl) (pa_cons (pe_tup (pa_cons (pv 2) (pa_cons (pv 3) pa_nil))) pa_nil)))))))), ?_⟩
    refine ⟨_, rfl, _, _, _, _, true, rfl, .ty "tuple", .base (.tup ha), kit_ty (by decide +kernel), _, rfl, iteF ?_⟩
    refine ⟨_, rfl, a, _, rfl, .inr (SqT.of ha), rfl, _, rfl, iteF ?_⟩
    refine ⟨_, rfl, a, _, rfl, SqT.of ha, rfl, _, _, rfl, _, _, rfl, _, _, rfl, rfl, ?_⟩
    refine ⟨_, rfl, _, rfl, _, rfl, iteT ?_⟩
    refine ⟨_, rfl, _, rfl, (by show 2 ≤ sizeLine; decide), fun p np => ?_⟩
    exact ⟨p, e, rfl, upd_same, h0, fun H' s' => q H' ((same_upd np).trans s')⟩
def spShort : Sp := fun vs H Q _ => ∃ (a : Addr) (xs : List V), vs = [.ref a] ∧ H a = some (.lst xs) ∧ xs.length ≤ 400 ∧ Q (.bl true) H
theorem ok_is_short_list (bt : Bt mg) (tk : Tok) (m_MOST_EVENTS : mg "MOST_EVENTS" = some (.int 400 tk)) (a : At K mg "is_short_list" s_is_short_list ["value"]) : Cl P w K mg base 1 "is_short_list" spShort := by
  refine clG a sc_is_short_list (fun vs H Q E h => ?_) (fun f cdv A outer s H vs Q hg hr h => ?_)
  · obtain ⟨a, xs, rfl, _⟩ := h
    rfl
  · obtain ⟨a, xs, rfl, ha, hl, q⟩ := h
    refine ⟨_, (pss_one (ps_ret (pe_and (pe_callB call_isi (by rfl) bt.m_isinstance (by decide +kernel) (pa_cons (pv 0) (pa_cons (pe_bltn (v := .ty "list") (by rfl) bt.m_list (by decide +kernel) rfl) pa_nil))) (pe_one (pe_cmpR op_le (pe_callB call_len_seq (by rfl) bt.m_len (by decide +kernel) (pa_cons (pv 0) pa_nil)) (pe_glob (v := .int 400) (by rfl) m_MOST_EVENTS ⟨_, rfl⟩) (nomark _)))))), ?_⟩
    refine ⟨_, rfl, _, _, _, _, true, rfl, .ty "list", .base (.lst ha), kit_ty (by decide +kernel), _, rfl, iteT ?_⟩
    refine ⟨_, rfl, a, _, rfl, .inl (SqL.of ha), _, _, rfl, rfl, ?_⟩
    show Q (.bl (decide ((xs.length : Int) ≤ 400))) H
    rw [decide_eq_true (show (xs.length : Int) ≤ 400 by omega)]
    exact q
def spTurn : Sp := fun vs H Q _ => ∃ (d : Addr) (kvs : List (Key × V)) (k : Int) (b : Bool), vs = [.ref d, .int k, .str (wayS b)] ∧ H d = some (.dK kvs) ∧ kvs.length < sizeLine ∧
  (valV kvs (Sum.inl k)).getD (.bl false) = .bl (!b) ∧ Q (.bl true) (upd H d (.dK (putK kvs (Sum.inl k) (.bl b))))
theorem ok_takes_turn (a : At K mg "takes_turn" s_takes_turn ["held", "key", "way"]) : Cl P w K mg base 1 "takes_turn" spTurn := by
  refine clG a sc_takes_turn (fun vs H Q E h => ?_) (fun f cdv A outer s H vs Q hg hr h => ?_)
  · obtain ⟨d, kvs, k, b, rfl, _⟩ := h
    rfl
  · obtain ⟨d, kvs, k, b, rfl, hd, hl, hv, q⟩ := h
    refine ⟨_, (pss_cons (ps_set (i := 3) sc_takes_turn.nd rfl (Or.inl rfl) (pe_cmpR op_eq (pv 2) pe_str (nomark _)))
      (pss_cons (ps_if (pt_cmpR op_eq (pe_dget2 (hu_of hr) (pv 0) (pv 1) pe_bl ⟨rfl, rfl, rfl, rfl⟩) (pv 3) (nomark _)) (pss_one (ps_ret pe_bl)) pss_nil)
      (pss_cons (ps_dput (hu_of hr) (pv 0) (pv 1) (pv 3) rfl)
      (pss_one (ps_ret pe_bl))))), ?_⟩
    refine ⟨_, rfl, rfl, ?_⟩
    refine ⟨_, rfl, d, rfl, .inl ⟨kvs, .inl hd⟩, _, rfl, _, DGet.k (k := Sum.inl k) hd, ?_⟩
    rw [wayS_down, hv]
    refine ⟨_, rfl, rfl, _, rfl, ?_⟩
    rw [decide_eq_false (fun z => by have := V.bl.inj z; cases b <;> cases this)]
    refine iteF ?_
    exact ⟨_, rfl, _, rfl, _, rfl, d, _, rfl, DPut.k (k := Sum.inl k) hd hl, q⟩
def spBelow : Sp := fun vs H Q _ => ∃ k m : Int, vs = [.int k, .int m] ∧ k < m ∧ Q (.bl true) H
theorem ok_is_below (a : At K mg "is_below" s_is_below ["key", "many"]) : Cl P w K mg base 1 "is_below" spBelow := by
  refine clG a sc_is_below (fun vs H Q E h => ?_) (fun f cdv A outer s H vs Q hg hr h => ?_)
  · obtain ⟨k, m, rfl, _⟩ := h
    rfl
  · obtain ⟨k, m, rfl, hk, q⟩ := h
    refine ⟨_, (pss_one (ps_ret (pe_or (pe_cmpR op_isN (pv 1) pe_non (nomark _)) (pe_one (pe_cmpR op_lt (pv 0) (pv 1) (nomark _)))))), ?_⟩
    refine ⟨_, rfl, rfl, _, rfl, iteF ⟨_, rfl, _, rfl, _, _, rfl, rfl, ?_⟩⟩
    show Q (.bl (decide (k < m))) H
    rw [decide_eq_true hk]
    exact q
def spFollow : Sp := fun vs H Q _ => ∃ (b d : Addr) (e : Ev) (l : V) (kvs : List (Key × V)), vs = [.ref b, l, .ref d] ∧ H b = some (.tup (evV e)) ∧
  (l = .non ∨ ∃ (b' : Addr) (e' : Ev), l = .ref b' ∧ H b' = some (.tup (evV e')) ∧ e'.t ≤ e.t) ∧ H d = some (.dK kvs) ∧ kvs.length < sizeLine ∧
  (valV kvs (Sum.inl e.k)).getD (.bl false) = .bl (!e.d) ∧ Q (.bl true) (upd H d (.dK (putK kvs (Sum.inl e.k) (.bl e.d))))
theorem ok_can_follow (a : At K mg "can_follow" s_can_follow ["event", "last", "held"]) (c_takes_turn : Cl P w K mg base 1 "takes_turn" spTurn) : Cl P w K mg base 2 "can_follow" spFollow := by
  refine clG a sc_can_follow (fun vs H Q E h => ?_) (fun f cdv A outer s H vs Q hg hr h => ?_)
  · obtain ⟨b, d, e, l, kvs, rfl, _⟩ := h
    rfl
  · obtain ⟨b, d, e, l, kvs, rfl, hb, hl, hd, hz, hv, q⟩ := h
    refine ⟨_, (pss_cons (ps_if (PW.pt (pw_and (pt_cmpR op_notN (pv 1) pe_non (nomark _)) (pw_and1 (pt_cmpR op_lt (pe_ix ix_tup (pv 0) pe_int (fun _ _ => rfl)) (pe_ix ix_tup (pv 1) pe_int (fun _ _ => rfl)) (nomark _))))) (pss_one (ps_ret pe_bl)) pss_nil)
      (pss_one (ps_ret (pe_cl c_takes_turn hg hr (by decide) (by rfl) (pa_cons (pv 2) (pa_cons (pe_ix ix_tup (pv 0) pe_int (fun _ _ => rfl)) (pa_cons (pe_ix ix_tup (pv 0) pe_int (fun _ _ => rfl)) pa_nil))))))), ?_⟩
    rcases hl with rfl | ⟨b', e', rfl, hb', hle⟩
    · refine ⟨_, rfl, rfl, _, rfl, iteF ?_⟩
      refine ⟨_, rfl, _, rfl, b, _, _, _, rfl, rfl, SqT.of hb, atI_nat (j := 1) rfl, _, rfl, b, _, _, _, rfl, rfl, SqT.of hb, atI_nat (j := 2) rfl, ?_⟩
      exact ⟨d, kvs, e.k, e.d, rfl, hd, hz, hv, q⟩
    · refine ⟨_, rfl, rfl, _, rfl, iteT ?_⟩
      refine ⟨_, rfl, b, _, _, _, rfl, rfl, SqT.of hb, atI_nat (j := 0) rfl, _, rfl, b', _, _, _, rfl, rfl, SqT.of hb', atI_nat (j := 0) rfl, _, _, rfl, rfl, _, rfl, ite2 (fun z => ?_) (fun z => ?_)⟩
      · have z0 : e.t < e'.t := of_decide_eq_true z
        omega
      · refine ⟨_, rfl, _, rfl, b, _, _, _, rfl, rfl, SqT.of hb, atI_nat (j := 1) rfl, _, rfl, b, _, _, _, rfl, rfl, SqT.of hb, atI_nat (j := 2) rfl, ?_⟩
        exact ⟨d, kvs, e.k, e.d, rfl, hd, hz, hv, q⟩
def spCheck : Sp := fun vs H Q _ => ∃ (c : Addr) (m : Int) (es : List Ev), vs = [.ref c, .int m] ∧ Lst evV H c es ∧ Valid es ∧ es.length ≤ 400 ∧ (∀ e ∈ es, e.k < m) ∧ ∀ H', Same H H' → Q .non H'
theorem ok_check_record (bt : Bt mg) (a : AtX K mg "check_record" s_check_record ["value", "many"] []) (c_is_short_list : Cl P w K mg base 1 "is_short_list" spShort) (c_is_event : Cl P w K mg base 3 "is_event" spEvent) (c_can_follow : Cl P w K mg base 2 "can_follow" spFollow) (c_is_below : Cl P w K mg base 1 "is_below" spBelow) :
    Cl P w K mg base 4 "check_record" spCheck := by
  refine clX a sc_check_record (fun vs H Q E h => ?_) (fun f cdv A outer s H vs Q hg hr h => ?_)
  · obtain ⟨a, m, e, rfl, _⟩ := h
    rfl
  · obtain ⟨c, m, es, rfl, hL, hV, hl, hkm, q⟩ := h
    refine ⟨_, (pss_cons (ps_if (pt_not (pt_val (pe_cl c_is_short_list hg hr (by decide) (by rfl) (pa_cons (pv 0) pa_nil)))) pss_never pss_nil)
      (pss_cons (ps_set (i := 2) sc_check_record.nd rfl (Or.inl rfl) pe_dnewK)
      (pss_one (ps_for PassesOwn.never rfl (pi_enum (by rfl) bt.m_enumerate (pa_cons (pv 0) pa_nil)) (pg_tup rfl (pgs_cons (pg_name (i := 3) sc_check_record.nd rfl (Or.inl rfl)) (pgs_cons (pg_name (i := 4) sc_check_record.nd rfl (Or.inl rfl)) pgs_nil))) (pss_cons (ps_if (PW.pt (pw_or (pt_not (pt_val (pe_cl c_is_event hg hr (by decide) (by rfl) (pa_cons (pv 4) pa_nil)))) (pw_or1 (pt_not (pt_val (pe_cl c_is_below hg hr (by decide) (by rfl) (pa_cons (pe_ix ix_tup (pv 4) pe_int (fun _ _ => rfl)) (pa_cons (pv 1) pa_nil)))))))) pss_never pss_nil)
      (pss_one (ps_if (pt_not (pt_val (pe_cl c_can_follow hg hr (by decide) (by rfl) (pa_cons (pv 4) (pa_cons (pe_ifExp (pt_cmpR op_gt (pv 3) pe_int (nomark _)) (pe_ix ix_list (pv 0) (pe_op op_sub (pv 3) pe_int) (fun _ _ => rfl)) pe_non) (pa_cons (pv 2) pa_nil)))))) pss_never pss_nil))))))), ?_⟩
    obtain ⟨as, hc, hT⟩ := hL
    have hlen : (as.map V.ref).length = es.length := by rw [List.length_map]; exact hT.1
    refine ⟨_, rfl, c, _, rfl, hc, by omega, _, rfl, iteF ?_⟩
    intro d nd
    refine ⟨_, rfl, c, _, rfl, SqL.of ((same_upd nd) _ _ hc), for_it (walk_enum (xs := as.map V.ref))
      (fun i σ H' => Same H H' ∧ ∃ kvs y2 y3, σ = [some (.ref c), some (.int m), some (.ref d), y2, y3] ∧ H' d = some (.dK kvs) ∧ kvs.length ≤ i ∧ HeldK kvs (heldB (es.take i)))
      ⟨same_upd nd, _, _, _, rfl, upd_same, Nat.le_refl _, HeldK.nil⟩ (fun _ _ H' _ p => SqL.of (p.1 _ _ hc)) (fun i x σ H1 H2 hi p y => ?_) (fun σ H1 p => ?_)⟩
    · obtain ⟨s1, kvs, y2, y3, rfl, hd, hkl, hk⟩ := p
      obtain ⟨T, u, v, rfl, nT, rfl, e1, e2⟩ := y
      have hi' : i < es.length := by omega
      obtain ⟨b, hb, hbt⟩ := hT.at_ hi'
      have he : es[i]? = some es[i] := List.getElem?_eq_getElem hi'
      obtain ⟨v1, v2, v3⟩ := hV i _ he
      have e2' : v = .ref b := by
        have e2 : (as.map V.ref)[i]? = some v := e2
        rw [List.getElem?_map, hb] at e2
        exact (Option.some.inj e2).symm
      subst e2'
      have e1' : u = .int (i : Nat) := (Option.some.inj e1).symm
      subst e1'
      have s2 : Same H (upd H1 T (.tup [.int (i : Nat), .ref b])) := s1.trans (same_upd nT)
      have hb2 := s2 _ _ hbt
      refine ⟨T, _, rfl, SqT.of upd_same, rfl, _, _, rfl, _, _, rfl, rfl, ?_⟩
      refine ⟨_, rfl, b, _, rfl, hb2, v1, fun H3 s3 => ?_⟩
      have s4 := s2.trans s3
      have hb4 := s4 _ _ hbt
      refine ⟨_, rfl, iteF ?_⟩
      have hkk := hkm _ (List.getElem_mem hi')
      refine ⟨_, rfl, b, _, _, _, rfl, rfl, SqT.of hb4, atI_nat (j := 1) rfl, _, rfl, es[i].k, m, rfl, hkk, _, rfl, iteF ?_⟩
      have hd4 : H3 d = some (.dK kvs) := s3 _ _ ((same_upd nT) _ _ hd)
      have fin : Same H (upd H3 d (.dK (putK kvs (Sum.inl es[i].k) (.bl es[i].d)))) ∧ ∃ kvs' y2 y3, [some (V.ref c), some (V.int m), some (V.ref d), some (V.int (i : Nat)), some (V.ref b)] = [some (V.ref c), some (V.int m), some (V.ref d), y2, y3] ∧
          upd H3 d (.dK (putK kvs (Sum.inl es[i].k) (.bl es[i].d))) d = some (.dK kvs') ∧ kvs'.length ≤ i + 1 ∧ HeldK kvs' (heldB (es.take (i + 1))) := by
        refine ⟨Same.off s4 nd off_upd, _, _, _, rfl, upd_same, ?_, ?_⟩
        · have := put_len kvs (Sum.inl es[i].k) (.bl es[i].d); omega
        · rw [List.take_add_one, he]
          exact hk.put
      have hv : (valV kvs (Sum.inl es[i].k)).getD (.bl false) = .bl (!es[i].d) := by rw [hk.at_, v2]
      have hz : kvs.length < sizeLine := small1000 (by omega)
      refine ⟨_, rfl, _, rfl, _, _, rfl, rfl, _, rfl, ite2 (fun e => ?_) (fun e => ?_)⟩
      · have e0 : (0 : Int) < (i : Nat) := of_decide_eq_true e
        obtain ⟨b', hb', hbt'⟩ := hT.at_ (i := i - 1) (by omega)
        have hle := v3 (i - 1) _ (by omega) (List.getElem?_eq_getElem (by omega))
        have g : (as.map V.ref)[i - 1]? = some (.ref b') := by rw [List.getElem?_map, hb']; rfl
        refine ⟨_, rfl, _, rfl, _, _, rfl, rfl, c, _, _, .ref b', rfl, rfl, SqL.of (s4 _ _ hc), at_of (j := i - 1) (by omega) g, _, rfl, ?_⟩
        exact ⟨b, d, es[i], .ref b', kvs, rfl, hb4, .inr ⟨b', _, rfl, s4 _ _ hbt', hle⟩, hd4, hz, hv, _, rfl, iteF fin⟩
      · exact ⟨_, rfl, b, d, es[i], .non, kvs, rfl, hb4, .inl rfl, hd4, hz, hv, _, rfl, iteF fin⟩
    · exact q _ p.1
def spCode : Sp := fun vs H Q _ => ∃ c : Str, vs = [.str c] ∧ CodeOk c ∧ ∀ H', Same H H' → Q (.bl true) H'
theorem ok_is_code (bt : Bt mg) {tk1 tk2 : Tok} (m_MOST_SIGNS : mg "MOST_SIGNS" = some (.int 8 tk1)) (m_CODE_SIGNS : mg "CODE_SIGNS" = some (.str "abcdefghijklmnopqrstuvwxyz0123456789" tk2)) (a : At K mg "is_code" s_is_code ["value"]) : Cl P w K mg base 1 "is_code" spCode := by
  refine clG a sc_is_code (fun vs H Q E h => ?_) (fun f cdv A outer s H vs Q hg hr h => ?_)
  · obtain ⟨i, rfl, _⟩ := h
    rfl
  · obtain ⟨c, rfl, hc, q⟩ := h
    refine ⟨_, (pss_cons (ps_if (PW.pt (pw_or (pt_not (pt_val (pe_callB call_isi (by rfl) bt.m_isinstance (by decide +kernel) (pa_cons (pv 0) (pa_cons (pe_bltn (v := .ty "str") (by rfl) bt.m_str (by decide +kernel) rfl) pa_nil))))) (pw_or1 (pt_not (pt_chain op_le op_le pe_int (pe_callB call_len_str (by rfl) bt.m_len (by decide +kernel) (pa_cons (pv 0) pa_nil)) (pe_glob (v := .int 8) (by rfl) m_MOST_SIGNS ⟨_, rfl⟩)))))) (pss_one (ps_ret pe_bl)) pss_nil)
      (pss_one (ps_ret (pe_callB (cr_all rfl) (by rfl) bt.m_all (by decide +kernel) (pa_cons (pe_lc (own := [("sign", 1)]) (g := (gName 1)) (by rfl) sc_is_code.nd (pi_str (pv 0)) (blkOk_by (N := n_is_code) (sc := defScope s_is_code) (by decide +kernel)) (fun _ _ _ _ _ => (pg_name (i := 1) sc_is_code.nd rfl (Or.inl rfl))) (fun _ _ _ _ _ => pts_nil) (fun _ _ _ _ _ => (pe_cmpR op_in_sign (pv 1) (pe_glob (v := .str "abcdefghijklmnopqrstuvwxyz0123456789") (by rfl) m_CODE_SIGNS ⟨_, rfl⟩) rfl))) pa_nil))))), ?_⟩
    have e1 : (c.length : Int) = (c.cps.size : Int) := rfl
    have h1 := hc.1
    have h8 := hc.2.1
    refine ⟨_, rfl, _, _, _, _, true, rfl, .ty "str", .base (.str _), kit_ty (by decide +kernel), _, rfl, iteF ?_⟩
    refine ⟨_, rfl, c, rfl, (by rw [sizeLine_eq]; have : c.length = c.cps.size := rfl; omega), _, _, rfl, rfl, true, congrArg V.bl (decide_eq_true (by omega)), iteT ⟨_, _, rfl, rfl, true, congrArg V.bl (decide_eq_true (by omega)), ?_⟩⟩
    refine iteF ⟨_, rfl, c, rfl, fun L nL => lc_it (walk_str (z := c)) (fun i H' => H' = upd H L (.lst ((List.replicate i true).map V.bl))) rfl (fun _ _ _ _ => True.intro) (fun i x H2 H3 hi p y => ?_) (fun H2 p => ?_)⟩
    · obtain ⟨rfl, d, hd, rfl⟩ := y
      subst p
      have hm : d ∈ signs.cps.toList := hc.2.2 d (by rw [Array.mem_toList_iff]; exact Array.mem_of_getElem? hd)
      refine ⟨rfl, ⟨_, rfl, d, signs, rfl, rfl, _, upd_same, ?_, ?_⟩⟩
      · rw [List.length_map, List.length_replicate]; exact small1000 (by omega)
      · show upd (upd H L _) L (.lst (_ ++ [V.bl (decide (d ∈ signs.cps.toList))])) = _
        rw [decide_eq_true hm, upd_upd, List.replicate_succ', List.map_append]; rfl
    · subst p
      refine ⟨L, _, rfl, SqL.of upd_same, ?_⟩
      rw [allT]
      exact q _ (same_upd nL)
end
end K24

set_option Elab.async false
set_option linter.all false
set_option maxRecDepth 100000
set_option maxHeartbeats 8000000
namespace K24
open PySem PySem.Spec PyProof.Rows L2 Gd Rm La Cb
def ksV (ks : List Int) : List V := ks.map V.int
theorem at_int {ns : List Int} {i : Nat} (h : i < ns.length) : (ns.map V.int)[i]? = some (.int ns[i]) := get_map_int (List.getElem?_eq_getElem h)
section
variable {P : Program} {w : World} {K : PySem.W.Frag} {mg : Str → Option Value} {base : Heap}
def spAsc : Sp := fun vs H Q _ => ∃ (a : Addr) (ks : List Int) (m : Int), vs = [.ref a, .int m] ∧ H a = some (.tup (ks.map V.int)) ∧ ks.Pairwise (· < ·) ∧ (ks.length = 2 ∨ ks.length = 3) ∧ (∀ k ∈ ks, 0 ≤ k ∧ k < m) ∧ ∀ H', Same H H' → Q (.bl true) H'
theorem ok_are_ascending (bt : Bt mg) (a : At K mg "are_ascending" s_are_ascending ["values", "many"]) (c_is_between : Cl P w K mg base 2 "is_between" spBtw) : Cl P w K mg base 3 "are_ascending" spAsc := by
  refine clG a sc_are_ascending (fun vs H Q E h => ?_) (fun f cdv A outer s H vs Q hg hr h => ?_)
  · obtain ⟨a, ks, m, rfl, _⟩ := h
    rfl
  · obtain ⟨a, ks, m, rfl, ha, hasc, hlen, hkey, q⟩ := h
    refine ⟨_, (pss_cons (ps_if (pt_not (pt_val (pe_callB (cr_all rfl) (by rfl) bt.m_all (by decide +kernel) (pa_cons (pe_lc (own := [("value", 3)]) (g := (gName 3)) (by rfl) sc_are_ascending.nd (pi_tup (pv 0)) (blkOk_by (N := n_are_ascending) (sc := defScope s_are_ascending) (by decide +kernel)) (fun _ _ _ _ _ => (pg_name (i := 3) sc_are_ascending.nd rfl (Or.inl rfl))) (fun _ _ _ _ _ => pts_nil) (fun _ _ _ _ _ => (pe_cl c_is_between hg hr (by decide) (by rfl) (pa_cons (pv 3) (pa_cons pe_int (pa_cons (pe_op op_sub (pv 1) pe_int) pa_nil)))))) pa_nil)))) (pss_one (ps_ret pe_bl)) pss_nil)
      (pss_one (ps_ret (pe_callB (cr_all rfl) (by rfl) bt.m_all (by decide +kernel) (pa_cons (pe_lc (own := [("at", 2)]) (g := (gName 2)) (by rfl) sc_are_ascending.nd (pi_range2 (by rfl) bt.m_range (pa_cons pe_int (pa_cons (pe_callB call_len_seq (by rfl) bt.m_len (by decide +kernel) (pa_cons (pv 0) pa_nil)) pa_nil))) (blkOk_by (N := n_are_ascending) (sc := defScope s_are_ascending) (by decide +kernel)) (fun _ _ _ _ _ => (pg_name (i := 2) sc_are_ascending.nd rfl (Or.inl rfl))) (fun _ _ _ _ _ => pts_nil) (fun _ _ _ _ _ => (pe_cmpR op_lt (pe_ix (r := rIxT K) ix_tup (pv 0) (pe_op op_sub (pv 2) pe_int) (fun _ _ => rfl)) (pe_ix (r := rIxT K) ix_tup (pv 0) (pv 2) (fun _ _ => rfl)) (nomark _)))) pa_nil))))), ?_⟩
    have hl : (ks.map V.int).length = ks.length := List.length_map _
    refine ⟨_, rfl, a, rfl, ⟨_, SqT.of ha⟩, fun M nM => lc_it (walk_tup (xs := ks.map V.int)) (fun i H' => Same H H' ∧ H' M = some (.lst ((List.replicate i true).map V.bl))) ⟨same_upd nM, upd_same⟩ (fun i H' _ p => SqT.of (p.1 _ _ ha)) (fun i x Hx H3 hi p y => ?_) (fun H3 p => ?_)⟩
    · obtain ⟨rfl, e2⟩ := y
      have hi' : i < ks.length := by rw [hl] at hi; exact hi
      have ex : V.int ks[i] = x := Option.some.inj ((at_int hi').symm.trans e2)
      subst ex
      have hk := hkey ks[i] (List.getElem_mem hi')
      refine ⟨rfl, _, rfl, _, rfl, _, _, rfl, rfl, _, _, _, rfl, hk.1, by omega, _, p.2, ?_, Same.off p.1 nM off_upd, ?_⟩
      · rw [List.length_map, List.length_replicate]; exact small1000 (by omega)
      · rw [upd_same, List.replicate_succ', List.map_append]; rfl
    · refine ⟨M, _, rfl, SqL.of p.2, _, rfl, ?_⟩
      rw [allT]
      refine iteF ?_
      have ha3 := p.1 _ _ ha
      refine ⟨_, rfl, a, _, rfl, .inr (SqT.of ha3), 1, _, rfl, ⟨by decide, by decide, by rw [hl]; omega, by rw [hl]; omega⟩, fun M2 nM2 => lc_it walk_range (fun i H' => Same H3 H' ∧ H' M2 = some (.lst ((List.replicate i true).map V.bl))) ⟨same_upd nM2, upd_same⟩ (fun _ _ _ _ => True.intro) (fun i x Hx H5 hi p5 y => ?_) (fun H5 p5 => ?_)⟩
      · obtain ⟨rfl, rfl⟩ := y
        rw [hl] at hi
        have hi' : i + 1 < ks.length := by omega
        have ha5 := p5.1 _ _ ha3
        have e1 : (1 : Int) + (i : Int) - 1 = ((i : Nat) : Int) := by omega
        have e2 : (1 : Int) + (i : Int) = ((i + 1 : Nat) : Int) := by omega
        have hlt : ks[i] < ks[i + 1] := List.pairwise_iff_getElem.mp hasc i (i + 1) (by omega) hi' (by omega)
        refine ⟨rfl, _, rfl, _, rfl, _, _, rfl, rfl, a, _, _, _, rfl, rfl, SqT.of ha5, by rw [e1]; exact atI_nat (at_int (by omega)), _, rfl, _, rfl, a, _, _, _, rfl, rfl, SqT.of ha5, by rw [e2]; exact atI_nat (at_int hi'), _, _, rfl, rfl, _, p5.2, ?_, Same.off p5.1 nM2 off_upd, ?_⟩
        · rw [List.length_map, List.length_replicate]; exact small1000 (by omega)
        · rw [upd_same, List.replicate_succ', List.map_append]
          show some (HO.lst (_ ++ [V.bl (decide (ks[i] < ks[i + 1]))])) = _
          rw [decide_eq_true hlt]; rfl
      · refine ⟨M2, _, rfl, SqL.of p5.2, ?_⟩
        rw [allT]
        exact q _ (p.1.trans p5.1)
def spKeys : Sp := fun vs H Q _ => ∃ (a : Addr) (ks : List Int) (m : Int), vs = [.ref a, .int m] ∧ H a = some (.tup (ks.map V.int)) ∧ ks.Pairwise (· < ·) ∧ (ks.length = 2 ∨ ks.length = 3) ∧ (∀ k ∈ ks, 0 ≤ k ∧ k < m) ∧ ∀ H', Same H H' → Q (.bl true) H'
theorem ok_are_combo_keys (bt : Bt mg) (a : At K mg "are_combo_keys" s_are_combo_keys ["value", "many"]) (c_are_ascending : Cl P w K mg base 3 "are_ascending" spAsc) : Cl P w K mg base 4 "are_combo_keys" spKeys := by
  refine clG a sc_are_combo_keys (fun vs H Q E h => ?_) (fun f cdv A outer s H vs Q hg hr h => ?_)
  · obtain ⟨a, ks, m, rfl, _⟩ := h
    rfl
  · obtain ⟨a, ks, m, rfl, ha, hasc, hlen, hkey, q⟩ := h
    refine ⟨_, (pss_one (ps_ret (pe_and (pe_callB call_isi (by rfl) bt.m_isinstance (by decide +kernel) (pa_cons (pv 0) (pa_cons (pe_bltn (v := .ty "tuple") (by rfl) bt.m_tuple (by decide +kernel) rfl) pa_nil))) (pe_and (pe_chain op_le op_le pe_int (pe_callB call_len_seq (by rfl) bt.m_len (by decide +kernel) (pa_cons (pv 0) pa_nil)) pe_int) (pe_one (pe_cl c_are_ascending hg hr (by decide) (by rfl) (pa_cons (pv 0) (pa_cons (pv 1) pa_nil)))))))), ?_⟩
    have hl : (ks.map V.int).length = ks.length := List.length_map _
    refine ⟨_, rfl, _, _, _, _, true, rfl, .ty "tuple", .base (.tup ha), kit_ty (by decide +kernel), _, rfl, iteT ?_⟩
    refine ⟨_, rfl, a, _, rfl, .inr (SqT.of ha), _, _, rfl, rfl, true, congrArg V.bl (decide_eq_true (by rw [hl]; omega)), iteT ⟨_, _, rfl, rfl, true, congrArg V.bl (decide_eq_true (by rw [hl]; omega)), iteT ?_⟩⟩
    exact ⟨_, rfl, _, rfl, a, ks, m, rfl, ha, hasc, hlen, hkey, q⟩
def spCombo : Sp := fun vs H Q _ => ∃ (v : V) (cb : Cmb) (m : Int), vs = [v, .int m] ∧ CmbV H cb v ∧ CmbOk m cb ∧ ∀ H', Same H H' → Q (.bl true) H'
theorem ok_is_combo (bt : Bt mg) {tk : Tok} (m_GREATEST_COMBO_TIME : mg "GREATEST_COMBO_TIME" = some (.int 1000000000 tk)) (a : At K mg "is_combo" s_is_combo ["value", "many"]) (c_is_between : Cl P w K mg base 2 "is_between" spBtw) (c_is_code : Cl P w K mg base 1 "is_code" spCode) (c_are_combo_keys : Cl P w K mg base 4 "are_combo_keys" spKeys) : Cl P w K mg base 5 "is_combo" spCombo := by
  refine clG a sc_is_combo (fun vs H Q E h => ?_) (fun f cdv A outer s H vs Q hg hr h => ?_)
  · obtain ⟨a, ks, m, rfl, _⟩ := h
    rfl
  · obtain ⟨v, cb, m, rfl, ⟨a, k, rfl, ha, hk⟩, ok, q⟩ := h
    refine ⟨_, (pss_cons (ps_if (PW.pt (pw_or (pt_not (pt_val (pe_callB call_isi (by rfl) bt.m_isinstance (by decide +kernel) (pa_cons (pv 0) (pa_cons (pe_bltn (v := .ty "tuple") (by rfl) bt.m_tuple (by decide +kernel) rfl) pa_nil))))) (pw_or1 (pt_cmpR op_ne (pe_callB call_len_seq (by rfl) bt.m_len (by decide +kernel) (pa_cons (pv 0) pa_nil)) pe_int (nomark _))))) (pss_one (ps_ret pe_bl)) pss_nil)
      (pss_cons (ps_asg (pv 0) (pg_tup rfl (pgs_cons (pg_name (i := 2) sc_is_combo.nd rfl (Or.inl rfl)) (pgs_cons (pg_name (i := 3) sc_is_combo.nd rfl (Or.inl rfl)) (pgs_cons (pg_name (i := 4) sc_is_combo.nd rfl (Or.inl rfl)) pgs_nil)))))
      (pss_cons (ps_if (pt_not (pt_val (pe_cl c_are_combo_keys hg hr (by decide) (by rfl) (pa_cons (pv 2) (pa_cons (pv 1) pa_nil))))) (pss_one (ps_ret pe_bl)) pss_nil)
      (pss_one (ps_ret (pe_and (pe_cl c_is_between hg hr (by decide) (by rfl) (pa_cons (pv 3) (pa_cons pe_int (pa_cons (pe_glob (v := .int 1000000000) (by rfl) m_GREATEST_COMBO_TIME ⟨_, rfl⟩) pa_nil)))) (pe_one (pe_cl c_is_code hg hr (by decide) (by rfl) (pa_cons (pv 4) pa_nil))))))))), ?_⟩
    refine ⟨_, rfl, _, _, _, _, true, rfl, .ty "tuple", .base (.tup ha), kit_ty (by decide +kernel), _, rfl, iteF ?_⟩
    refine ⟨_, rfl, a, _, rfl, .inr (SqT.of ha), rfl, _, rfl, iteF ?_⟩
    refine ⟨_, rfl, a, _, rfl, SqT.of ha, rfl, _, _, rfl, _, _, rfl, _, _, rfl, rfl, ?_⟩
    refine ⟨_, rfl, _, rfl, k, cb.ks, m, rfl, hk, ok.asc, ok.len, ok.key, fun H1 s1 => ⟨_, rfl, iteF ?_⟩⟩
    refine ⟨_, rfl, _, _, _, rfl, ok.time.1, ok.time.2, _, rfl, iteT ?_⟩
    exact ⟨_, rfl, cb.c, rfl, ok.code, fun H2 s2 => q _ (s1.trans s2)⟩
def spCCombos : Sp := fun vs H Q _ => ∃ (c : Addr) (cbs : List Cmb) (m : Int), vs = [.ref c, .int m] ∧ Cmbs H c cbs ∧ CbsOk m cbs ∧ ∀ H', Same H H' → Q .non H'
theorem ok_check_combos (bt : Bt mg) {tk : Tok} (m_MOST_COMBOS : mg "MOST_COMBOS" = some (.int 6 tk)) (a : At K mg "check_combos" s_check_combos ["value", "many"]) (c_is_combo : Cl P w K mg base 5 "is_combo" spCombo) : Cl P w K mg base 6 "check_combos" spCCombos := by
  refine clG a sc_check_combos (fun vs H Q E h => ?_) (fun f cdv A outer s H vs Q hg hr h => ?_)
  · obtain ⟨a, ks, m, rfl, _⟩ := h
    rfl
  · obtain ⟨c, cbs, m, rfl, ⟨vs, hc, hC⟩, ok, q⟩ := h
    have few := ok.few
    have hvl := hC.1
    refine ⟨_, (pss_cons (ps_if (PW.pt (pw_or (pt_not (pt_val (pe_callB call_isi (by rfl) bt.m_isinstance (by decide +kernel) (pa_cons (pv 0) (pa_cons (pe_bltn (v := .ty "list") (by rfl) bt.m_list (by decide +kernel) rfl) pa_nil))))) (pw_or1 (pt_cmpR op_gt (pe_callB call_len_seq (by rfl) bt.m_len (by decide +kernel) (pa_cons (pv 0) pa_nil)) (pe_glob (v := .int 6) (by rfl) m_MOST_COMBOS ⟨_, rfl⟩) (nomark _))))) pss_never pss_nil)
      (pss_cons (ps_set (i := 2) sc_check_combos.nd rfl (Or.inl rfl) (pe_lst pa_nil))
      (pss_one (ps_for PassesOwn.never rfl (pi_enum (by rfl) bt.m_enumerate (pa_cons (pv 0) pa_nil)) (pg_tup rfl (pgs_cons (pg_name (i := 3) sc_check_combos.nd rfl (Or.inl rfl)) (pgs_cons (pg_name (i := 4) sc_check_combos.nd rfl (Or.inl rfl)) pgs_nil))) (pss_cons (ps_if (PW.pt (pw_or (pt_not (pt_val (pe_cl c_is_combo hg hr (by decide) (by rfl) (pa_cons (pv 4) (pa_cons (pv 1) pa_nil))))) (pw_or1 (pt_cmpR (op_inD (room65 hr)) (pe_ix ix_tup (pv 4) pe_int (fun _ _ => rfl)) (pv 2) (by rfl))))) pss_never pss_nil)
      (pss_one (ps_expr (pe_bm PySem.F.plainAttrs_list PySem.F.slot_list_append PySem.F.type_list_append mt_append (pv 2) (pa_cons (pe_ix ix_tup (pv 4) pe_int (fun _ _ => rfl)) pa_nil))))))))), ?_⟩
    refine ⟨_, rfl, _, _, _, _, true, rfl, .ty "list", .base (.lst hc), kit_ty (by decide +kernel), _, rfl, iteF ?_⟩
    refine ⟨_, rfl, c, _, rfl, .inl (SqL.of hc), _, _, rfl, rfl, false, congrArg V.bl (decide_eq_false (by omega)), iteF ?_⟩
    refine ⟨Nat.zero_le _, fun Kn nKn => ?_⟩
    have sK := same_upd (o := .lst []) nKn
    refine ⟨_, rfl, c, _, rfl, SqL.of (sK _ _ hc), for_it (walk_enum (xs := vs)) (fun i σ H' => ∃ y3 y4, σ = [some (.ref c), some (.int m), some (.ref Kn), y3, y4] ∧ Same H H' ∧ Lst ksV H' Kn ((cbs.take i).map Cmb.ks))
      ⟨_, _, rfl, sK, [], upd_same, Tups.nil⟩ (fun i H' _ _ p => by obtain ⟨_, _, _, s, _⟩ := p; exact SqL.of (s _ _ hc)) (fun i x σ H1 H2 hi p y => ?_) (fun σ H1 p => ?_)⟩
    · obtain ⟨y3, y4, rfl, s1, hL⟩ := p
      obtain ⟨T, u, v, rfl, nT, rfl, e1, e2⟩ := y
      have hi' : i < cbs.length := by omega
      obtain ⟨ad, k, hv, ha, hk⟩ := Cmbs.at_ hC hi'
      have e1' : u = .int (i : Nat) := (Option.some.inj e1).symm
      subst e1'
      have e2' : v = .ref ad := Option.some.inj ((show vs[i]? = some v from e2).symm.trans hv)
      subst e2'
      have sT := same_upd (o := .tup [.int (i : Nat), .ref ad]) nT
      have s2 := s1.trans sT
      have hcb : cbs[i]? = some cbs[i] := List.getElem?_eq_getElem hi'
      have ok1 := ok.all cbs[i] (List.getElem_mem hi')
      refine ⟨T, _, rfl, SqT.of upd_same, rfl, _, _, rfl, _, _, rfl, rfl, ?_⟩
      refine ⟨_, rfl, _, rfl, .ref ad, cbs[i], m, rfl, ⟨ad, k, rfl, s2 _ _ ha, s2 _ _ hk⟩, ok1, fun H3 s3 => ⟨_, rfl, iteF ?_⟩⟩
      have s4 := s2.trans s3
      have hL4 := hL.same (sT.trans s3)
      obtain ⟨as, hKn, hT⟩ := id hL4
      have hal := hT.1
      have ha4 := s4 _ _ ha
      have hk4 := s4 _ _ hk
      refine ⟨_, rfl, ad, _, _, _, rfl, rfl, SqT.of ha4, atI_nat (j := 0) rfl, _, rfl, ksD cbs[i].ks, ((cbs.take i).map Cmb.ks).map ksD, .tup (SqT.of hk4) (dpInts _), .lst (SqL.of hKn) (dpAll_of (fun a e h => .tup (SqT.of h) (dpInts e)) as _ hT), shaped_ks _, shaped_kss _, _, rfl, ?_⟩
      rw [any_ks]
      have hnot : ¬ cbs[i].ks ∈ (cbs.take i).map Cmb.ks := fun hm => by
        obtain ⟨j, hj⟩ := List.getElem?_of_mem hm
        have hji : j < i := by
          have := (List.getElem?_eq_some_iff.mp hj).1
          rw [List.length_map, List.length_take] at this; omega
        rw [List.getElem?_map, List.getElem?_take_of_lt hji] at hj
        have h1 : (cbs.map Cmb.ks)[j]? = some cbs[i].ks := by rw [List.getElem?_map]; exact hj
        have h2 : (cbs.map Cmb.ks)[i]? = some cbs[i].ks := by rw [List.getElem?_map, hcb]; rfl
        have := (List.getElem?_inj (by rw [List.length_map]; omega) ok.apart).mp (h1.trans h2.symm)
        omega
      rw [decide_eq_false hnot]
      refine iteF ?_
      refine ⟨_, rfl, .inl ⟨rfl, _, SqL.of hKn⟩, _, rfl, ad, _, _, _, rfl, rfl, SqT.of ha4, atI_nat (j := 0) rfl, Kn, _, _, rfl, rfl, hKn, ?_, _, _, rfl, Same.off s4 nKn off_upd, as ++ [k], ?_, ?_⟩
      · rw [List.length_map, hal, List.length_map, List.length_take]; exact small1000 (by omega)
      · rw [upd_same, List.map_append]; rfl
      · rw [List.take_add_one, hcb, List.map_append]
        refine Tups.snoc (hT.off hKn off_upd) ?_
        rw [upd_ne (ne_of hk4 hKn (by intro z; cases z))]
        exact hk4
    · obtain ⟨y3, y4, rfl, s1, hL⟩ := p
      exact q _ s1
def spMany : Sp := fun vs H Q _ => ∃ m : Int, vs = [.int m] ∧ 1 ≤ m ∧ m ≤ 10 ∧ Q .non H
theorem ok_check_many {tk : Tok} (m_MOST_BOARD_KEYS : mg "MOST_BOARD_KEYS" = some (.int 10 tk)) (a : At K mg "check_many" s_check_many ["many"]) (c_is_between : Cl P w K mg base 2 "is_between" spBtw) : Cl P w K mg base 3 "check_many" spMany := by
  refine clG a sc_check_many (fun vs H Q E h => ?_) (fun f cdv A outer s H vs Q hg hr h => ?_)
  · obtain ⟨m, rfl, _⟩ := h
    rfl
  · obtain ⟨m, rfl, h1, h2, q⟩ := h
    refine ⟨_, (pss_one (ps_if (pt_not (pt_val (pe_cl c_is_between hg hr (by decide) (by rfl) (pa_cons (pv 0) (pa_cons pe_int (pa_cons (pe_glob (v := .int 10) (by rfl) m_MOST_BOARD_KEYS ⟨_, rfl⟩) pa_nil)))))) pss_never pss_nil)), ?_⟩
    exact ⟨_, rfl, _, _, _, rfl, h1, h2, _, rfl, iteF q⟩
structure Rc (H : Hp) (c : Addr) (m : Int) (es : List Ev) : Prop where
  ls : Lst evV H c es
  valid : Valid es
  len : es.length ≤ 400
  key : ∀ e ∈ es, e.k < m
theorem Rc.same {H H' : Hp} {c : Addr} {m : Int} {es : List Ev} (h : Rc H c m es) (s : Same H H') : Rc H' c m es := { h with ls := h.ls.same s }
def spGate : Sp := fun vs H Q _ => ∃ (cc c : Addr) (cbs : List Cmb) (m : Int) (es : List Ev), vs = [.int m, .ref cc, .ref c] ∧ 1 ≤ m ∧ m ≤ 10 ∧ Cmbs H cc cbs ∧ CbsOk m cbs ∧ Rc H c m es ∧ ∀ H', Same H H' → Q .non H'
theorem ok_check_gate (a : At K mg "check_gate" s_check_gate ["many", "combos", "record"]) (c_check_many : Cl P w K mg base 3 "check_many" spMany) (c_check_combos : Cl P w K mg base 6 "check_combos" spCCombos) (c_check_record : Cl P w K mg base 4 "check_record" spCheck) : Cl P w K mg base 7 "check_gate" spGate := by
  refine clG a sc_check_gate (fun vs H Q E h => ?_) (fun f cdv A outer s H vs Q hg hr h => ?_)
  · obtain ⟨cc, c, cbs, m, es, rfl, _⟩ := h
    rfl
  · obtain ⟨cc, c, cbs, m, es, rfl, m1, m2, hC, ok, R, q⟩ := h
    refine ⟨_, (pss_cons (ps_expr (pe_cl c_check_many hg hr (by decide) (by rfl) (pa_cons (pv 0) pa_nil)))
      (pss_cons (ps_expr (pe_cl c_check_combos hg hr (by decide) (by rfl) (pa_cons (pv 1) (pa_cons (pv 0) pa_nil))))
      (pss_one (ps_expr (pe_cl c_check_record hg hr (by decide) (by rfl) (pa_cons (pv 2) (pa_cons (pv 0) pa_nil))))))), ?_⟩
    refine ⟨_, rfl, m, rfl, m1, m2, ?_⟩
    refine ⟨_, rfl, _, rfl, cc, cbs, m, rfl, hC, ok, fun H1 s1 => ?_⟩
    exact ⟨_, rfl, _, rfl, c, m, es, rfl, R.ls.same s1, R.valid, R.len, R.key, fun H2 s2 => q _ (s1.trans s2)⟩
def tkV (e : Ev) : List V := [.int e.t, .int e.k]
def spFirst : Sp := fun vs H Q _ => ∃ (d cc : Addr) (cbs : List Cmb) (m : Int) (ds : List Ev), vs = [.ref d, .ref cc] ∧ Lst tkV H d ds ∧ ds ≠ [] ∧ ds.length ≤ 400 ∧ Cmbs H cc cbs ∧ CbsOk m cbs ∧
  ∀ H' p x, Same H H' → H p = none → H' p = some (.tup [.int (fp cbs ds : Nat), x]) → Q (.ref p) H'
theorem ok_first_piece (bt : Bt mg) (a : At K mg "first_piece" s_first_piece ["downs", "combos"]) : Cl P w K mg base 1 "first_piece" spFirst := by
  refine clG a sc_first_piece (fun vs H Q E h => ?_) (fun f cdv A outer s H vs Q hg hr h => ?_)
  · obtain ⟨d, cc, cbs, m, ds, rfl, _⟩ := h
    rfl
  · obtain ⟨d, cc, cbs, m, ds, rfl, ⟨as, hd, hT⟩, hne, hdl, ⟨vs, hc, hC⟩, ok, q⟩ := h
    have few := ok.few
    have hvl := hC.1
    have hal := hT.1
    have hpos : 0 < ds.length := by
      cases ds with
      | nil => exact absurd rfl hne
      | cons _ _ => exact Nat.succ_pos _
    refine ⟨_, (pss_cons (ps_for PassesOwn.never rfl (pi_tup (pe_tup (pa_cons pe_int (pa_cons pe_int pa_nil)))) (pg_name (i := 2) sc_first_piece.nd rfl (Or.inl rfl)) (pss_cons (ps_set (i := 3) sc_first_piece.nd rfl (Or.inl rfl) (pe_callB cr_sortedI (by rfl) bt.m_sorted (by decide +kernel) (pa_cons (pe_lc (own := [("tick", 6), ("key", 7)]) (g := (gTup K 2 (gCons (gName 6) (gCons (gName 7) gNil)))) (by rfl) sc_first_piece.nd (pi_list (pe_slice sl_list (pv 0) po_none (po_some (pv 2)))) (blkOk_by (N := n_first_piece) (sc := defScope s_first_piece) (by decide +kernel)) (fun _ _ _ _ _ => (pg_tup rfl (pgs_cons (pg_name (i := 6) sc_first_piece.nd rfl (Or.inl rfl)) (pgs_cons (pg_name (i := 7) sc_first_piece.nd rfl (Or.inl rfl)) pgs_nil)))) (fun _ _ _ _ _ => pts_nil) (fun _ _ _ _ _ => (pv 7))) pa_nil)))
      (pss_one (ps_for PassesOwn.never rfl (pi_enum (by rfl) bt.m_enumerate (pa_cons (pv 1) pa_nil)) (pg_tup rfl (pgs_cons (pg_name (i := 4) sc_first_piece.nd rfl (Or.inl rfl)) (pgs_cons (pg_name (i := 5) sc_first_piece.nd rfl (Or.inl rfl)) pgs_nil))) (pss_one (ps_if (PW.pt (pw_and (pt_cmpR op_eq (pe_callB call_len_seq (by rfl) bt.m_len (by decide +kernel) (pa_cons (pe_ix ix_tup (pv 5) pe_int (fun _ _ => rfl)) pa_nil)) (pv 2) (nomark _)) (pw_and1 (pt_cmpR (op_eqD hr.units) (pe_callTy call_list_of (by rfl) bt.m_list (by decide +kernel) (pa_cons (pe_ix ix_tup (pv 5) pe_int (fun _ _ => rfl)) pa_nil)) (pv 3) (nomark _))))) (pss_one (ps_if (pt_cmpR op_lt (pe_ix ix_tup (pe_ix ix_list (pv 0) (pe_op op_sub (pv 2) pe_int) (fun _ _ => rfl)) pe_int (fun _ _ => rfl)) (pe_op op_add (pe_ix ix_tup (pe_ix ix_list (pv 0) pe_int (fun _ _ => rfl)) pe_int (fun _ _ => rfl)) (pe_ix ix_tup (pv 5) pe_int (fun _ _ => rfl))) (nomark _)) (pss_one (ps_ret (pe_tup (pa_cons (pv 2) (pa_cons (pv 4) pa_nil))))) pss_nil)) pss_nil))))))
      (pss_one (ps_ret (pe_tup (pa_cons pe_int (pa_cons pe_non pa_nil)))))), ?_⟩
    refine ⟨(by show 2 ≤ sizeLine; decide), fun Sz nSz => ⟨Sz, rfl, ⟨_, SqT.of upd_same⟩, ?_⟩⟩
    have sS := same_upd (o := .tup [.int 3, .int 2]) nSz
    refine for_it (walk_tup (xs := [.int 3, .int 2])) (fun j σ H' => ∃ (y2 y3 y4 y5 y6 y7 : Option V), σ = [some (.ref d), some (.ref cc), y2, y3, y4, y5, y6, y7] ∧ Same H H' ∧ H' Sz = some (.tup [.int 3, .int 2]) ∧ (0 < j → ∀ cb ∈ cbs, ¬ Match cb 3 ds) ∧ (1 < j → ∀ cb ∈ cbs, ¬ Match cb 2 ds))
      ⟨_, _, _, _, _, _, rfl, sS, upd_same, fun h => by omega, fun h => by omega⟩ (fun _ _ _ _ p => by obtain ⟨_, _, _, _, _, _, _, _, h, _⟩ := p; exact SqT.of h) (fun j x σ H1 H2 hj p y => ?_) (fun σ H1 p => ?_)
    · obtain ⟨y2, y3, y4, y5, y6, y7, rfl, s1, hSz, n3, n2⟩ := p
      obtain ⟨rfl, e2⟩ := y
      obtain ⟨sz, rfl, hsz, hlast⟩ : ∃ sz : Nat, x = .int (sz : Nat) ∧ (sz = 2 ∨ sz = 3) ∧ (∀ cb ∈ cbs, ∀ _ : Match cb sz ds, fp cbs ds = sz) ∧ ((∀ cb ∈ cbs, ¬ Match cb sz ds) → (0 < j + 1 → ∀ cb ∈ cbs, ¬ Match cb 3 ds) ∧ (1 < j + 1 → ∀ cb ∈ cbs, ¬ Match cb 2 ds)) := by
        have hj2 : j < 2 := hj
        match j, hj2, e2, n3, n2 with
        | 0, _, e2, _, _ => exact ⟨3, (Option.some.inj e2).symm, .inr rfl, fun cb h m => fp_three h m, fun h => ⟨fun _ => h, fun q => by omega⟩⟩
        | 1, _, e2, n3, _ => exact ⟨2, (Option.some.inj e2).symm, .inl rfl, fun cb h m => fp_two (n3 (by decide)) h m, fun h => ⟨fun _ => n3 (by decide), fun _ => h⟩⟩
      obtain ⟨hfp, hnext⟩ := hlast
      have hd1 := s1 _ _ hd
      refine ⟨_, rfl, _, rfl, _, rfl, d, _, rfl, SqL.of hd1, fun Sl nSl => ⟨Sl, rfl, ⟨_, SqL.of upd_same⟩, fun M nM => ?_⟩⟩
      rw [cutTake, ← List.map_take] at *
      have kS := same_upd (o := .lst ((as.take sz).map V.ref)) nSl
      have hSl := upd_same (H := H2) (a := Sl) (o := .lst ((as.take sz).map V.ref))
      have hTs := (hT.same (s1.trans kS)).take sz
      refine lc_it (walk_list (xs := (as.take sz).map V.ref)) (fun i H' => Same (upd H2 Sl (.lst ((as.take sz).map V.ref))) H' ∧ H' M = some (.lst ((((ds.take sz).take i).map Ev.k).map V.int))) ⟨same_upd nM, upd_same⟩ (fun i H' _ p => SqL.of (p.1 _ _ hSl)) (fun i v H3 H4 hi p y => ?_) (fun H3 p => ?_)
      · obtain ⟨rfl, e3⟩ := y
        have hi' : i < (ds.take sz).length := by rw [List.length_map, hTs.1] at hi; exact hi
        obtain ⟨b, hb, hbt⟩ := hTs.at_ hi'
        have e3' : v = .ref b := Option.some.inj (e3.symm.trans (get_map_ref hb))
        subst e3'
        refine ⟨b, _, rfl, SqT.of (p.1 _ _ hbt), rfl, _, _, rfl, _, _, rfl, rfl, rfl, _, rfl, _, p.2, ?_, Same.off p.1 nM off_upd, ?_⟩
        · rw [List.length_map, List.length_map, List.length_take, List.length_take]; exact small1000 (by omega)
        · rw [upd_same, List.take_add_one, List.getElem?_eq_getElem hi', List.map_append, List.map_append]; rfl
      · rw [List.length_map, hTs.1, List.take_length] at p
        refine ⟨M, _, rfl, SqL.of p.2, fun ns' pk hpk hok npk => ?_⟩
        have kP := same_upd (o := .lst (ns'.map V.int)) npk
        have s3 := ((s1.trans kS).trans p.1).trans kP
        have hSz3 := ((kS.trans p.1).trans kP) _ _ hSz
        have hkeys := upd_same (H := H3) (a := pk) (o := .lst (ns'.map V.int))
        refine (fun (G : ∀ H5 : Hp, Same H H5 → H5 Sz = some (.tup [.int 3, .int 2]) → H5 pk = some (.lst (ns'.map V.int)) → _) => G _ s3 hSz3 hkeys) (fun H5 s5 hSz5 hkeys => ?_)
        refine ⟨_, rfl, cc, _, rfl, SqL.of (s5 _ _ hc), for_it (walk_enum (xs := vs)) (fun i σ H' => ∃ (y4 y5 y6 y7 : Option V), σ = [some (.ref d), some (.ref cc), some (.int (sz : Nat)), some (.ref pk), y4, y5, y6, y7] ∧ Same H5 H' ∧ ∀ (m : Nat) (cb : Cmb), m < i → cbs[m]? = some cb → ¬ Match cb sz ds)
          ⟨_, _, _, _, rfl, Same.refl _, fun m cb h => by omega⟩ (fun _ _ _ _ p => by obtain ⟨_, _, _, _, _, s, _⟩ := p; exact SqL.of ((s5.trans s) _ _ hc)) (fun i v σ H6 H7 hi p y => ?_) (fun σ H6 p => ?_)⟩
        · obtain ⟨y4, y5, y6, y7, rfl, s6, hno⟩ := p
          obtain ⟨T, u, v, rfl, nT, rfl, e1, e3⟩ := y
          have hi' : i < cbs.length := by omega
          obtain ⟨ad, k, hv, ha, hk⟩ := Cmbs.at_ hC hi'
          have e1' : u = .int (i : Nat) := (Option.some.inj e1).symm
          subst e1'
          have e2' : v = .ref ad := Option.some.inj ((show vs[i]? = some v from e3).symm.trans hv)
          subst e2'
          have sT := same_upd (o := .tup [.int (i : Nat), .ref ad]) nT
          have s7 := s6.trans sT
          have s57 := s5.trans s7
          have hcb : cbs[i]? = some cbs[i] := List.getElem?_eq_getElem hi'
          have hmem : cbs[i] ∈ cbs := List.getElem_mem hi'
          have ok1 := ok.all cbs[i] hmem
          generalize cbs[i] = cb at *
          have ha7 := s57 _ _ ha
          have hk7 := s57 _ _ hk
          have step : ∀ {H' : Hp}, Same H5 H' → ¬ Match cb sz ds → ∃ (y4 y5 y6 y7 : Option V), [some (V.ref d), some (V.ref cc), some (V.int (sz : Nat)), some (V.ref pk), some (V.int (i : Nat)), some (V.ref ad), y6, y7] = [some (.ref d), some (.ref cc), some (.int (sz : Nat)), some (.ref pk), y4, y5, y6, y7] ∧ Same H5 H' ∧ ∀ (m : Nat) (cb : Cmb), m < i + 1 → cbs[m]? = some cb → ¬ Match cb sz ds := fun {H'} s nm =>
            ⟨_, _, y6, y7, rfl, s, fun m cb' hm hc' => by
              by_cases z : m = i
              · subst z
                rw [hcb] at hc'
                cases hc'
                exact nm
              · exact hno m cb' (by omega) hc'⟩
          refine ⟨T, _, rfl, SqT.of upd_same, rfl, _, _, rfl, _, _, rfl, rfl, ?_⟩
          refine ⟨_, rfl, ad, _, _, _, rfl, rfl, SqT.of ha7, atI_nat (j := 0) rfl, k, _, rfl, .inr (SqT.of hk7), _, rfl, rfl, _, rfl, ?_⟩
          rw [List.length_map]
          refine ite2 (fun z1 => ?_) (fun z1 => iteF ?_)
          · have z1' : cb.ks.length = sz := by
              have := V.int.inj (of_decide_eq_true z1)
              omega
            refine ⟨_, rfl, ad, _, _, _, rfl, rfl, SqT.of ha7, atI_nat (j := 0) rfl, k, _, rfl, .inr (SqT.of hk7), fun Lc nLc => ?_⟩
            have kL := same_upd (o := .lst (cb.ks.map V.int)) nLc
            refine ⟨_, rfl, _, _, .lst (SqL.of upd_same) (dpInts _), .lst (SqL.of ((s7.trans kL) _ _ hkeys)) (dpInts _), shaped_ints _, shaped_ints _, _, rfl, ?_⟩
            rw [eqv_intL]
            have s8 := s7.trans kL
            refine ite2 (fun z2 => ?_) (fun z2 => ?_)
            · have z2' : cb.ks = ns' := of_decide_eq_true z2
              have hperm : cb.ks.Perm ((ds.take sz).map Ev.k) := by rw [z2']; exact hpk
              have hlen : sz ≤ ds.length := by
                have := hperm.length_eq
                rw [z1', List.length_map, List.length_take] at this
                omega
              have s58 := s5.trans s8
              obtain ⟨bl, hbl, hblt⟩ := hT.at_ (i := sz - 1) (by omega)
              obtain ⟨b0, hb0, hb0t⟩ := hT.at_ (i := 0) hpos
              have eidx : ((sz : Nat) : Int) - 1 = ((sz - 1 : Nat) : Int) := by omega
              refine ⟨_, rfl, _, rfl, _, _, rfl, rfl, d, _, _, _, rfl, rfl, SqL.of (s58 _ _ hd), by rw [eidx]; exact atI_nat (get_map_ref hbl), bl, _, _, _, rfl, rfl, SqT.of (s58 _ _ hblt), atI_nat (j := 0) rfl, ?_⟩
              refine ⟨_, rfl, d, _, _, _, rfl, rfl, SqL.of (s58 _ _ hd), atI_nat (j := 0) (get_map_ref hb0), b0, _, _, _, rfl, rfl, SqT.of (s58 _ _ hb0t), atI_nat (j := 0) rfl, ?_⟩
              refine ⟨_, rfl, ad, _, _, _, rfl, rfl, SqT.of ((sT.trans kL) _ _ (s6 _ _ (s5 _ _ ha))), atI_nat (j := 1) rfl, _, _, rfl, rfl, _, _, rfl, rfl, _, rfl, ite2 (fun z3 => ?_) (fun z3 => ?_)⟩
              · have z3' : ds[sz - 1].t < ds[0].t + cb.t := of_decide_eq_true z3
                have mt : Match cb sz ds := ⟨z1', hperm, ds[0], ds[sz - 1], List.getElem?_eq_getElem hpos, List.getElem?_eq_getElem (by omega), z3'⟩
                refine ⟨_, rfl, _, rfl, (by show 2 ≤ sizeLine; decide), fun p np => q _ p (.int (i : Nat)) (s58.trans (same_upd np)) (s58.free np) ?_⟩
                rw [upd_same, hfp cb hmem mt]
              · have z3' : ¬ ds[sz - 1].t < ds[0].t + cb.t := fun q => z3 (decide_eq_true q)
                obtain ⟨w4, w5, w6, w7, e, ss, hh⟩ := step s8 fun ⟨_, _, a, b, ha, hb, lt⟩ => by
                  rw [List.getElem?_eq_getElem hpos] at ha
                  rw [List.getElem?_eq_getElem (by omega)] at hb
                  have e1 := Option.some.inj ha
                  have e2 := Option.some.inj hb
                  rw [← e1, ← e2] at lt
                  exact z3' lt
                exact ⟨_, _, _, _, rfl, ss, hh⟩
            · have z2' : ¬ cb.ks = ns' := fun q => z2 (decide_eq_true q)
              obtain ⟨w4, w5, w6, w7, e, ss, hh⟩ := step s8 fun ⟨_, hp, _⟩ => z2' (List.Perm.eq_of_pairwise (fun x y _ _ h1 h2 => Int.le_antisymm h1 h2) (ok1.asc.imp fun h => by omega) hok (hp.trans hpk.symm))
              exact ⟨_, _, _, _, rfl, ss, hh⟩
          · have z1' : ¬ cb.ks.length = sz := fun q => z1 (decide_eq_true (congrArg V.int (by omega)))
            obtain ⟨w4, w5, w6, w7, e, ss, hh⟩ := step s7 fun m => z1' m.1
            exact ⟨_, _, _, _, rfl, ss, hh⟩
        · obtain ⟨y4, y5, y6, y7, rfl, s6, hno⟩ := p
          have nm : ∀ cb ∈ cbs, ¬ Match cb sz ds := fun cb hm => by
            obtain ⟨i, hi⟩ := List.getElem?_of_mem hm
            have := (List.getElem?_eq_some_iff.mp hi).1
            exact hno i cb (by omega) hi
          obtain ⟨g3, g2⟩ := hnext nm
          exact ⟨_, _, _, _, _, _, rfl, s5.trans s6, s6 _ _ hSz5, g3, g2⟩
    · obtain ⟨y2, y3, y4, y5, y6, y7, rfl, s1, hSz, n3, n2⟩ := p
      refine ⟨(by show 2 ≤ sizeLine; decide), fun p np => q _ p .non (s1.trans (same_upd np)) (s1.free np) ?_⟩
      rw [upd_same, fp_one (n3 (by decide)) (n2 (by decide))]; rfl
end
end K24

set_option Elab.async false
set_option linter.all false
set_option maxRecDepth 100000
set_option maxHeartbeats 8000000
namespace K24
open PySem PySem.Spec PyProof.Rows L2 Gd Rm La Cb
/-- a new list of new lists of numbers -/
structure LL (H0 H : Hp) (p : Addr) (r : List (List Int)) (as : List Addr) : Prop where
  ls : H p = some (.lst (as.map V.ref))
  len : as.length = r.length
  el : ∀ (i : Nat) (a : Addr) (ns : List Int), as[i]? = some a → r[i]? = some ns → H a = some (.lst (ns.map V.int))
  new : ∀ a ∈ as, H0 a = none ∧ a ≠ p
theorem LL.nil {H0 H : Hp} {p : Addr} (h : H p = some (.lst [])) : LL H0 H p [] [] := ⟨h, rfl, fun i a ns x _ => by simp at x, fun a h => by simp at h⟩
theorem LL.same {H0 H H' : Hp} {p : Addr} {r : List (List Int)} {as : List Addr} (h : LL H0 H p r as) (s : Same H H') : LL H0 H' p r as := ⟨s _ _ h.ls, h.len, fun i a ns x y => s _ _ (h.el i a ns x y), h.new⟩
theorem LL.get {H0 H : Hp} {p : Addr} {r : List (List Int)} {as : List Addr} (h : LL H0 H p r as) {a : Addr} (ha : a ∈ as) : ∃ ns : List Int, H a = some (.lst (ns.map V.int)) := by
  obtain ⟨i, hi⟩ := List.getElem?_of_mem ha
  have hl := h.len
  have := (List.getElem?_eq_some_iff.mp hi).1
  exact ⟨r[i], h.el i a _ hi (List.getElem?_eq_getElem (by omega))⟩
/-- one more list put in -/
theorem LL.push {H0 H : Hp} {p b : Addr} {r : List (List Int)} {as : List Addr} {ns : List Int} (h : LL H0 H p r as) (hb : H b = some (.lst (ns.map V.int))) (nb : H0 b = none) (bp : b ≠ p) :
    LL H0 (upd H p (.lst (as.map V.ref ++ [.ref b]))) p (r ++ [ns]) (as ++ [b]) := by
  refine ⟨by rw [upd_same, List.map_append]; rfl, by rw [List.length_append, List.length_append, h.len]; rfl, fun i a ms x y => ?_, fun a ha => ?_⟩
  · have hl := h.len
    rcases Nat.lt_or_ge i as.length with q | q
    · rw [List.getElem?_append_left q] at x
      rw [List.getElem?_append_left (by omega)] at y
      rw [upd_ne (h.new a (List.mem_of_getElem? x)).2]
      exact h.el i a ms x y
    · have hi : i = as.length := by
        have := (List.getElem?_eq_some_iff.mp x).1
        rw [List.length_append, List.length_singleton] at this
        omega
      subst hi
      rw [List.getElem?_append_right (Nat.le_refl _), Nat.sub_self] at x
      rw [List.getElem?_append_right (by omega), show as.length - r.length = 0 by omega] at y
      have e1 : b = a := Option.some.inj x
      have e2 : ns = ms := Option.some.inj y
      subst e1 e2
      rw [upd_ne bp]
      exact hb
  · rcases List.mem_append.mp ha with q | q
    · exact h.new a q
    · rw [List.mem_singleton.mp q]; exact ⟨nb, bp⟩
theorem seg_len (a b : Nat) : (seg a b).length = b - a := by unfold seg; rw [List.length_map, List.length_range']
theorem seg_at {a b i : Nat} (h : i < b - a) : (seg a b)[i]? = some ((a + i : Nat) : Int) := by
  unfold seg
  rw [List.getElem?_map, List.getElem?_range' h, Nat.one_mul]; rfl
theorem seg_ext {a b : Nat} {l : List Int} (hl : l.length = b - a) (h : ∀ i, i < b - a → l[i]? = some ((a + i : Nat) : Int)) : l = seg a b := by
  refine List.ext_getElem? fun i => ?_
  rcases Nat.lt_or_ge i (b - a) with q | q
  · rw [h i q, seg_at q]
  · rw [List.getElem?_eq_none (by omega), List.getElem?_eq_none (by rw [seg_len]; omega)]
theorem seg_take {a b k : Nat} (h : a + k ≤ b) : (seg a b).take k = seg a (a + k) := seg_ext (by rw [List.length_take, seg_len]; omega) fun i hi => by
  rw [List.getElem?_take_of_lt (by omega), seg_at (by omega)]
theorem seg_drop {a b k : Nat} (h : a + k ≤ b) : (seg a b).drop k = seg (a + k) b := seg_ext (by rw [List.length_drop, seg_len]; omega) fun i hi => by
  rw [List.getElem?_drop, seg_at (by omega)]
  exact congrArg some (by omega)
theorem seg_snoc {a b : Nat} (h : a ≤ b) : seg a b ++ [(b : Int)] = seg a (b + 1) := seg_ext (by rw [List.length_append, seg_len, List.length_singleton]; omega) fun i hi => by
  rcases Nat.lt_or_ge i (b - a) with q | q
  · rw [List.getElem?_append_left (by rw [seg_len]; exact q), seg_at q]
  · rw [List.getElem?_append_right (by rw [seg_len]; exact q), seg_len, show i - (b - a) = 0 by omega]
    exact congrArg some (by omega)
theorem seg_nil (a : Nat) : seg a a = [] := by unfold seg; rw [Nat.sub_self]; rfl
theorem prt_at {es : List Ev} {s e i : Nat} (h : i < e - s) : (prt es s e)[i]? = es[s + i]? := by
  unfold prt
  rw [List.getElem?_take_of_lt h, List.getElem?_drop]
theorem cut_len {es : List Ev} {cbs : List Cmb} {e s : Nat} {r : List (List Int)} (h : Cut es cbs e s r) : e ≤ es.length → s ≤ e → r.length ≤ e - s := by
  induction h with
  | nil => intro _ _; exact Nat.zero_le _
  | @cons s r hs _ ih =>
    intro he _
    have hl := prt_len (es := es) (s := s) he
    have ne : prt es s e ≠ [] := fun z => by rw [z] at hl; simp at hl; omega
    have f := fp_le cbs ne
    have f1 := fp_pos cbs (prt es s e)
    rw [hl] at f
    have := ih he (by omega)
    rw [List.length_cons]
    omega
section
variable {P : Program} {w : World} {K : PySem.W.Frag} {mg : Str → Option Value} {base : Heap}
def spCut : Sp := fun vs H Q _ => ∃ (c N cc : Addr) (es : List Ev) (cbs : List Cmb) (m : Int) (s e : Nat), vs = [.ref c, .ref N, .ref cc] ∧ Lst evV H c es ∧ es.length ≤ 400 ∧ Cmbs H cc cbs ∧ CbsOk m cbs ∧ H N = some (.lst ((seg s e).map V.int)) ∧ s ≤ e ∧ e ≤ es.length ∧
  ∀ H' p r as, Same H H' → H p = none → LL H H' p r as → Cut es cbs e s r → Q (.ref p) H'
theorem ok_cut (bt : Bt mg) (a : At K mg "cut" s_cut ["record", "numbers", "combos"]) (c_first_piece : Cl P w K mg base 1 "first_piece" spFirst) : Cl P w K mg base 2 "cut" spCut := by
  refine clG a sc_cut (fun vs H Q E h => ?_) (fun f cdv A outer s H vs Q hg hr h => ?_)
  · obtain ⟨c, N, cc, es, cbs, m, s, e, rfl, _⟩ := h
    rfl
  · obtain ⟨c, N, cc, es, cbs, m, s0, e, rfl, hL, hl4, hC, ok, hN, hse, hel, q⟩ := h
    refine ⟨_, (pss_cons (ps_par (i := 3) (j := 4) rfl sc_cut.nd rfl rfl (by decide) rfl rfl (pa_cons (pe_lst pa_nil) (pa_cons (pv 1) pa_nil)) (by rfl))
      (pss_cons (ps_while PassesOwn.never (pt_truth (pv 4) (by intro _; rfl)) (pss_cons (ps_setLc (i := 5) (own := [("number", 8)]) (g := (gName 8)) (by rfl) sc_cut.nd rfl rfl (sw_true rfl rfl rfl (by decide +kernel)) (pi_list (pv 4)) (blkOk_by (N := n_cut) (sc := defScope s_cut) (by decide +kernel)) (fun _ _ _ _ _ => (pg_name (i := 8) sc_cut.nd rfl (Or.inl rfl))) (fun _ _ _ _ _ => pts_nil) (fun _ _ _ _ _ => (pe_tup (pa_cons (pe_ix (r := rIxT K) ix_tup (pe_ix (r := rIxL K) ix_list (pv 0) (pv 8) (fun _ _ => rfl)) pe_int (fun _ _ => rfl)) (pa_cons (pe_ix (r := rIxT K) ix_tup (pe_ix (r := rIxL K) ix_list (pv 0) (pv 8) (fun _ _ => rfl)) pe_int (fun _ _ => rfl)) pa_nil)))))
      (pss_cons (ps_asg (pe_cl c_first_piece hg hr (by decide) (by rfl) (pa_cons (pv 5) (pa_cons (pv 2) pa_nil))) (pg_tup rfl (pgs_cons (pg_name (i := 6) sc_cut.nd rfl (Or.inl rfl)) (pgs_cons (pg_name (i := 7) sc_cut.nd rfl (Or.inl rfl)) pgs_nil))))
      (pss_cons (ps_expr (pe_bm PySem.F.plainAttrs_list PySem.F.slot_list_append PySem.F.type_list_append mt_append (pv 3) (pa_cons (pe_slice sl_list (pv 4) po_none (po_some (pv 6))) pa_nil)))
      (pss_one (ps_set (i := 4) sc_cut.nd rfl (Or.inl rfl) (pe_slice sl_list (pv 4) (po_some (pv 6)) po_none)))))))
      (pss_one (ps_ret (pv 3))))), ?_⟩
    refine ⟨Nat.zero_le _, fun F nF => ⟨_, rfl, _, _, rfl, ?_⟩⟩
    have sF := same_upd (o := .lst []) nF
    obtain ⟨asr, hc, hT⟩ := id hL
    have hal := hT.1
    refine ⟨fun k σ H' => ∃ (R : Addr) (s : Nat) (acc : List (List Int)) (as : List Addr) (y5 y6 y7 y8 : Option V), k = e - s ∧ s ≤ e ∧ s0 ≤ s ∧ σ = [some (.ref c), some (.ref N), some (.ref cc), some (.ref F), some (.ref R), y5, y6, y7, y8] ∧ Same H H' ∧ LL H H' F acc as ∧ acc.length ≤ s - s0 ∧ R ≠ F ∧
        H' R = some (.lst ((seg s e).map V.int)) ∧ ∀ r, Cut es cbs e s r → Cut es cbs e s0 (acc ++ r), ⟨_, N, s0, [], [], _, _, _, _, rfl, hse, Nat.le_refl _, rfl, sF, LL.nil upd_same, Nat.zero_le _, ne_of_none hN nF, sF _ _ hN, fun r h => h⟩, fun k σ H1 W => ?_⟩
    obtain ⟨R, s, acc, as, y5, y6, y7, y8, rfl, hs1, hs2, rfl, s1, ll, hacc, RF, hR, hcut⟩ := W
    refine ⟨_, rfl, _, .inl ⟨_, SqL.of hR, rfl⟩, ?_⟩
    have hR0 := hR
    by_cases hz : s = e
    · subst hz
      rw [seg_nil]
      refine iteF ⟨_, rfl, q H1 F _ as s1 nF ll ?_⟩
      have := hcut [] .nil
      rwa [List.append_nil] at this
    · have hlt : s < e := by omega
      have hne : (!(((seg s e).map V.int).isEmpty)) = true := by
        have hln := seg_len s e
        cases h : seg s e with
        | nil => rw [h] at hln; simp at hln; omega
        | cons _ _ => rfl
      rw [hne]
      refine iteT ⟨fun σ' H' => ∃ m', m' < e - s ∧ ∃ (R : Addr) (s : Nat) (acc : List (List Int)) (as : List Addr) (y5 y6 y7 y8 : Option V), m' = e - s ∧ s ≤ e ∧ s0 ≤ s ∧ σ' = [some (.ref c), some (.ref N), some (.ref cc), some (.ref F), some (.ref R), y5, y6, y7, y8] ∧ Same H H' ∧ LL H H' F acc as ∧ acc.length ≤ s - s0 ∧ R ≠ F ∧
          H' R = some (.lst ((seg s e).map V.int)) ∧ ∀ r, Cut es cbs e s r → Cut es cbs e s0 (acc ++ r), fun _ _ h => h, ?_⟩
      have hpl := prt_len (es := es) (s := s) hel
      have pne : prt es s e ≠ [] := fun z => by rw [z] at hpl; simp at hpl; omega
      have f1 := fp_pos cbs (prt es s e)
      have f2 := fp_le cbs pne
      rw [hpl] at f2
      have hc1 := s1 _ _ hc
      refine ⟨_, rfl, R, rfl, ⟨_, SqL.of hR⟩, fun D nD => lc_it (walk_list (xs := (seg s e).map V.int)) (fun i H' => Same H1 H' ∧ Lst tkV H' D ((prt es s e).take i)) ⟨same_upd nD, [], upd_same, Tups.nil⟩ (fun i H' _ p => SqL.of (p.1 _ _ hR)) (fun i v H2 H3 hi p y => ?_) (fun H2 p => ?_)⟩
      · obtain ⟨rfl, e2⟩ := y
        obtain ⟨p1, asd, hD, hTd⟩ := p
        have hi' : i < e - s := by rw [List.length_map, seg_len] at hi; exact hi
        have ev : v = .int ((s + i : Nat) : Int) := Option.some.inj (e2.symm.trans (get_map_int (seg_at hi')))
        subst ev
        have hsi : s + i < es.length := by omega
        obtain ⟨b, hb, hbt⟩ := hT.at_ hsi
        have hc3 := p1 _ _ hc1
        have hb3 := p1 _ _ (s1 _ _ hbt)
        refine ⟨rfl, _, rfl, _, rfl, c, _, _, _, rfl, rfl, SqL.of hc3, atI_nat (get_map_ref hb), b, _, _, _, rfl, rfl, SqT.of hb3, atI_nat (j := 0) rfl, _, rfl, _, rfl, c, _, _, _, rfl, rfl, SqL.of hc3, atI_nat (get_map_ref hb), b, _, _, _, rfl, rfl, SqT.of hb3, atI_nat (j := 1) rfl, (by show 2 ≤ sizeLine; decide), fun p np => ?_⟩
        have kp := same_upd (o := .tup [.int es[s + i].t, .int es[s + i].k]) np
        have hDp := kp _ _ hD
        have pD : p ≠ D := (ne_of_none hD np).symm
        have hald := hTd.1
        refine ⟨_, hDp, ?_, Same.off (p1.trans kp) nD off_upd, asd ++ [p], by rw [upd_same, List.map_append]; rfl, ?_⟩
        · rw [List.length_map, hald, List.length_take]; exact small1000 (by omega)
        · rw [List.take_add_one, prt_at hi', List.getElem?_eq_getElem hsi]
          refine Tups.snoc ((hTd.same kp).off hDp off_upd) ?_
          rw [upd_ne pD]
          exact upd_same
      · obtain ⟨p1, hD⟩ := p
        rw [List.length_map, seg_len, List.take_of_length_le (by omega)] at hD
        have s2 := s1.trans p1
        refine ⟨_, rfl, _, rfl, D, cc, cbs, m, prt es s e, rfl, hD, pne, by omega, hC.same s2, ok, fun H3 p x s3 np hp => ?_⟩
        have s4 := s2.trans s3
        have ll4 := (ll.same p1).same s3
        have hR4 := (p1.trans s3) _ _ hR
        refine ⟨p, _, rfl, SqT.of hp, rfl, _, _, rfl, _, _, rfl, rfl, ?_⟩
        generalize hsz : fp cbs (prt es s e) = sz at *
        have hll := ll4.len
        refine ⟨_, rfl, .inl ⟨rfl, _, SqL.of ll4.ls⟩, _, rfl, _, rfl, sz, rfl, R, _, rfl, SqL.of hR4, fun A1 nA => ?_⟩
        rw [cutTake, ← List.map_take, seg_take (by omega)]
        have kA := same_upd (o := .lst ((seg s (s + sz)).map V.int)) nA
        have ll5 := ll4.same kA
        have AF : A1 ≠ F := (ne_of_none ll4.ls nA).symm
        refine ⟨F, _, .ref A1, rfl, rfl, ll5.ls, by rw [List.length_map, hll]; exact small1000 (by omega), ?_⟩
        have ll6 := ll5.push (upd_same (H := H3) (a := A1) (o := .lst ((seg s (s + sz)).map V.int))) (s4.free nA) AF
        have s6 : Same H (upd (upd H3 A1 (.lst ((seg s (s + sz)).map V.int))) F (.lst (as.map V.ref ++ [.ref A1]))) := Same.off (s4.trans kA) nF off_upd
        have hR6 : upd (upd H3 A1 (.lst ((seg s (s + sz)).map V.int))) F (.lst (as.map V.ref ++ [.ref A1])) R = some (.lst ((seg s e).map V.int)) := by rw [upd_ne RF]; exact kA _ _ hR4
        refine ⟨_, rfl, _, rfl, sz, rfl, R, _, rfl, SqL.of hR6, fun R2 nR2 => ?_⟩
        rw [cutDrop (by rw [List.length_map, seg_len]; omega), ← List.map_drop, seg_drop (by omega)]
        have k7 := same_upd (o := .lst ((seg (s + sz) e).map V.int)) nR2
        refine ⟨e - (s + sz), by omega, R2, s + sz, acc ++ [seg s (s + sz)], as ++ [A1], _, _, _, _, rfl, by omega, by omega, rfl, s6.trans k7, ll6.same k7, by rw [List.length_append, List.length_singleton]; omega, (ne_of_none ll6.ls nR2).symm, upd_same, fun r h => ?_⟩
        rw [List.append_assoc]
        refine hcut _ ?_
        have := Cut.cons (es := es) (cbs := cbs) (e := e) (s := s) (r := r) hlt (by rw [hsz]; exact h)
        rw [hsz] at this
        exact this
def spPieces : Sp := fun vs H Q _ => ∃ (cc c : Addr) (cbs : List Cmb) (m : Int) (es : List Ev), vs = [.int m, .ref cc, .ref c] ∧ 1 ≤ m ∧ m ≤ 10 ∧ Cmbs H cc cbs ∧ CbsOk m cbs ∧ Rc H c m es ∧ ∀ H' p r as, Same H H' → H p = none → LL H H' p r as → Due es cbs 0 r → r.length ≤ es.length → Q (.ref p) H'
theorem ok_pieces (bt : Bt mg) (a : At K mg "pieces" s_pieces ["many", "combos", "record"]) (c_check_gate : Cl P w K mg base 7 "check_gate" spGate) (c_cut : Cl P w K mg base 2 "cut" spCut) : Cl P w K mg base 8 "pieces" spPieces := by
  refine clG a sc_pieces (fun vs H Q E h => ?_) (fun f cdv A outer s H vs Q hg hr h => ?_)
  · obtain ⟨cc, c, cbs, m, es, rfl, _⟩ := h
    rfl
  · obtain ⟨cc, c, cbs, m, es, rfl, m1, m2, hC, ok, R, q⟩ := h
    refine ⟨_, (pss_cons (ps_expr (pe_cl c_check_gate hg hr (by decide) (by rfl) (pa_cons (pv 0) (pa_cons (pv 1) (pa_cons (pv 2) pa_nil)))))
      (pss_cons (ps_par (i := 3) (j := 4) rfl sc_pieces.nd rfl rfl (by decide) rfl rfl (pa_cons (pe_lst pa_nil) (pa_cons (pe_lst pa_nil) pa_nil)) (by rfl))
      (pss_cons (ps_for PassesOwn.never rfl (pi_enum (by rfl) bt.m_enumerate (pa_cons (pv 2) pa_nil)) (pg_tup rfl (pgs_cons (pg_name (i := 5) sc_pieces.nd rfl (Or.inl rfl)) (pgs_cons (pg_name (i := 6) sc_pieces.nd rfl (Or.inl rfl)) pgs_nil))) (pss_one (ps_if (pt_cmpR op_eq (pe_ix ix_tup (pv 6) pe_int (fun _ _ => rfl)) pe_str (nomark _)) (pss_one (ps_expr (pe_bm PySem.F.plainAttrs_list PySem.F.slot_list_append PySem.F.type_list_append mt_append (pv 4) (pa_cons (pv 5) pa_nil)))) (pss_cons (ps_expr (pe_bm PySem.F.plainAttrs_list PySem.F.slot_list_extend PySem.F.type_list_extend mt_extend (pv 3) (pa_cons (pe_cl c_cut hg hr (by decide) (by rfl) (pa_cons (pv 2) (pa_cons (pv 4) (pa_cons (pv 1) pa_nil)))) pa_nil)))
      (pss_one (ps_set (i := 4) sc_pieces.nd rfl (Or.inl rfl) (pe_lst pa_nil)))))))
      (pss_one (ps_ret (pe_op op_cat (pv 3) (pe_cl c_cut hg hr (by decide) (by rfl) (pa_cons (pv 2) (pa_cons (pv 4) (pa_cons (pv 1) pa_nil)))))))))), ?_⟩
    refine ⟨_, rfl, _, rfl, _, rfl, cc, c, cbs, m, es, rfl, m1, m2, hC, ok, R, fun H1 s1 => ?_⟩
    refine ⟨Nat.zero_le _, fun F nF => ⟨Nat.zero_le _, fun N0 nN0 => ⟨_, _, rfl, ?_⟩⟩⟩
    have sF := same_upd (o := .lst []) nF
    have sN := same_upd (o := .lst []) nN0
    have s2 := (s1.trans sF).trans sN
    obtain ⟨asr, hc, hT⟩ := id R.ls
    have hal := hT.1
    have hl4 := R.len
    have nFH := s1.free nF
    have nNH := (s1.trans sF).free nN0
    refine ⟨_, rfl, c, _, rfl, SqL.of (s2 _ _ hc), for_it (walk_enum (xs := asr.map V.ref)) (fun i σ H' => ∃ (N : Addr) (s : Nat) (acc : List (List Int)) (as : List Addr) (y5 y6 : Option V), σ = [some (.int m), some (.ref cc), some (.ref c), some (.ref F), some (.ref N), y5, y6] ∧ Same H H' ∧ LL H H' F acc as ∧ (∀ a ∈ as, a ≠ N) ∧ H N = none ∧ N ≠ F ∧ H' N = some (.lst ((seg s i).map V.int)) ∧ s ≤ i ∧ Downs es s i ∧ acc.length ≤ s ∧
        ∀ r, Due es cbs s r → Due es cbs 0 (acc ++ r))
      ⟨N0, 0, [], [], _, _, rfl, s2, LL.nil (sN _ _ upd_same), fun a h => by simp at h, nNH, (ne_of_none upd_same nN0).symm, by rw [seg_nil]; exact upd_same, Nat.le_refl _, fun i a b => by omega, Nat.le_refl _, fun r h => h⟩ (fun _ _ _ _ p => by obtain ⟨_, _, _, _, _, _, _, s, _⟩ := p; exact SqL.of (s _ _ hc)) (fun i v σ H3 H4 hi p y => ?_) (fun σ H3 p => ?_)⟩
    · obtain ⟨N, s, acc, as, y5, y6, rfl, s3, ll, hasN, nN, NF, hN, hsi, hdn, hacl, hdue⟩ := p
      obtain ⟨T, u, v, rfl, nT, rfl, e1, e2⟩ := y
      have hi' : i < es.length := by rw [List.length_map] at hi; omega
      obtain ⟨b, hb, hbt⟩ := hT.at_ hi'
      have hev : es[i]? = some es[i] := List.getElem?_eq_getElem hi'
      have e1' : u = .int (i : Nat) := (Option.some.inj e1).symm
      subst e1'
      have e2' : v = .ref b := Option.some.inj ((show (asr.map V.ref)[i]? = some v from e2).symm.trans (get_map_ref hb))
      subst e2'
      have sT := same_upd (o := .tup [.int (i : Nat), .ref b]) nT
      have s4 := s3.trans sT
      have hN4 := sT _ _ hN
      have ll4 := ll.same sT
      refine ⟨T, _, rfl, SqT.of upd_same, rfl, _, _, rfl, _, _, rfl, rfl, ?_⟩
      refine ⟨_, rfl, b, _, _, _, rfl, rfl, SqT.of (s4 _ _ hbt), atI_nat (j := 2) rfl, rfl, _, rfl, ?_⟩
      rw [wayS_down]
      cases hd : es[i].d with
      | true =>
        refine iteT ⟨_, rfl, .inl ⟨rfl, _, SqL.of hN4⟩, _, rfl, N, _, _, rfl, rfl, hN4, by rw [List.length_map, seg_len]; exact small1000 (by omega), ?_⟩
        refine ⟨N, s, acc, as, _, _, rfl, Same.off s4 nN off_upd, ⟨by rw [upd_ne NF.symm]; exact ll4.ls, ll4.len, fun j a ns x y => by rw [upd_ne (hasN a (List.mem_of_getElem? x))]; exact ll4.el j a ns x y, ll4.new⟩, hasN, nN, NF, ?_, by omega, fun j h1 h2 => ?_, hacl, hdue⟩
        · rw [upd_same, ← seg_snoc hsi, List.map_append]; rfl
        · by_cases z : j = i
          · subst z; exact ⟨_, hev, hd⟩
          · exact hdn j h1 (by omega)
      | false =>
        have stp : Stops es i := .inr ⟨_, hev, hd⟩
        refine iteF ⟨_, rfl, .inl ⟨rfl, _, SqL.of ll4.ls⟩, _, rfl, _, rfl, _, rfl, c, N, cc, es, cbs, m, s, i, rfl, R.ls.same s4, hl4, hC.same s4, ok, hN4, hsi, by omega, fun H5 p r1 as1 s5 np ll1 cut => ?_⟩
        have s6 := s4.trans s5
        have ll6 := ll4.same s5
        have hcl := cut_len cut (by omega) hsi
        have hl1 := ll1.len
        have hl2 := ll6.len
        have pF : p ≠ F := (ne_of_none ll4.ls np).symm
        refine ⟨F, p, _, _, rfl, rfl, ll6.ls, ll1.ls, by rw [List.length_map, List.length_map, hl1, hl2, sizeLine_eq]; omega, ?_⟩
        refine ⟨Nat.zero_le _, fun N2 nN2 => ?_⟩
        have as1F : ∀ a ∈ as1, a ≠ F := fun a ha => (ne_of_none ll4.ls (ll1.new a ha).1).symm
        have ll7 : LL H (upd H5 F (.lst (as.map V.ref ++ as1.map V.ref))) F (acc ++ r1) (as ++ as1) := by
          refine ⟨by rw [upd_same, List.map_append], by rw [List.length_append, List.length_append, hl1, hl2], fun j a ns x y => ?_, fun a ha => ?_⟩
          · rcases Nat.lt_or_ge j as.length with q | q
            · rw [List.getElem?_append_left q] at x
              rw [List.getElem?_append_left (by omega)] at y
              rw [upd_ne (ll6.new a (List.mem_of_getElem? x)).2]
              exact ll6.el j a ns x y
            · rw [List.getElem?_append_right q] at x
              rw [List.getElem?_append_right (by omega), ← hl2] at y
              rw [upd_ne (as1F a (List.mem_of_getElem? x))]
              exact ll1.el _ a ns x y
          · rcases List.mem_append.mp ha with h | h
            · exact ll6.new a h
            · exact ⟨s4.free (ll1.new a h).1, as1F a h⟩
        have k7 := same_upd (o := .lst []) nN2
        have s7 : Same H (upd H5 F (.lst (as.map V.ref ++ as1.map V.ref))) := Same.off s6 nFH off_upd
        refine ⟨N2, i + 1, acc ++ r1, as ++ as1, _, _, rfl, s7.trans k7, ll7.same k7, fun a ha e => ?_, s7.free nN2, (ne_of_none ll7.ls nN2).symm, by rw [seg_nil]; exact upd_same, Nat.le_refl _, fun j a b => by omega, by rw [List.length_append]; omega, fun r h => ?_⟩
        · obtain ⟨ns, hns⟩ := ll7.get ha
          rw [e, nN2] at hns
          cases hns
        · rw [List.append_assoc]
          exact hdue _ (cut_due stp (.up hev hd h) cut hdn hsi)
    · obtain ⟨N, s, acc, as, y5, y6, rfl, s3, ll, hasN, nN, NF, hN, hsi, hdn, hacl, hdue⟩ := p
      rw [List.length_map, hal] at hN hsi hdn
      refine ⟨_, rfl, _, rfl, _, rfl, _, rfl, c, N, cc, es, cbs, m, s, es.length, rfl, R.ls.same s3, hl4, hC.same s3, ok, hN, hsi, Nat.le_refl _, fun H5 p r1 as1 s5 np ll1 cut => ?_⟩
      have s6 := s3.trans s5
      have ll6 := ll.same s5
      have hcl := cut_len cut (Nat.le_refl _) hsi
      have hl1 := ll1.len
      have hl2 := ll6.len
      refine ⟨F, p, _, _, rfl, rfl, ll6.ls, ll1.ls, by rw [List.length_map, List.length_map, hl1, hl2, sizeLine_eq]; omega, fun U nU => ?_⟩
      have kU := same_upd (o := .lst (as.map V.ref ++ as1.map V.ref)) nU
      have hd0 := hdue _ (cut_due (.inl rfl) (.fin (Nat.le_refl _)) cut hdn hsi)
      rw [List.append_nil] at hd0
      refine q _ U (acc ++ r1) (as ++ as1) (s6.trans kU) (s6.free nU) ⟨by rw [upd_same, List.map_append], by rw [List.length_append, List.length_append, hl1, hl2], fun j a ns x y => ?_, fun a ha => ?_⟩ hd0 (by rw [List.length_append]; omega)
      · rcases Nat.lt_or_ge j as.length with q | q
        · rw [List.getElem?_append_left q] at x
          rw [List.getElem?_append_left (by omega)] at y
          exact kU _ _ (ll6.el j a ns x y)
        · rw [List.getElem?_append_right q] at x
          rw [List.getElem?_append_right (by omega), ← hl2] at y
          exact kU _ _ (ll1.el _ a ns x y)
      · rcases List.mem_append.mp ha with h | h
        · obtain ⟨ns, hns⟩ := ll6.get h
          exact ⟨(ll6.new a h).1, ne_of_none hns nU⟩
        · obtain ⟨ns, hns⟩ := ll1.get h
          exact ⟨s3.free (ll1.new a h).1, ne_of_none hns nU⟩
end
end K24

set_option Elab.async false
set_option linter.all false
set_option maxRecDepth 100000
set_option maxHeartbeats 8000000
namespace K24
open PySem PySem.Spec PyProof.Rows L2 Gd Rm La Cb
def rLenB (K : PySem.W.Frag) : List V → Hp → VK → Prop := fun xs H Q => ∃ p ys, xs = [.ref p] ∧ (SqL K H p ys ∨ SqT K H p ys) ∧ Q (.int ys.length) H
def nI (n : Nat) : List Int := (List.range n).map fun k : Nat => (k : Int)
theorem rgV_nI (n : Nat) : rgV 0 (n : Int) = (nI n).map V.int := by
  unfold rgV nI
  rw [List.map_map, show ((n : Int) - 0).toNat = n by omega]
  refine List.map_congr_left fun k _ => ?_
  show V.int (0 + (k : Int)) = V.int (k : Int)
  rw [Int.zero_add]
theorem nI_nd (n : Nat) : (nI n).Nodup := by
  unfold nI
  rw [List.Nodup, List.pairwise_map]
  exact List.nodup_range.imp fun h e => h (by omega)
theorem nI_mem {n : Nat} {k : Int} : k ∈ nI n ↔ 0 ≤ k ∧ k < n := by
  unfold nI
  rw [List.mem_map]
  constructor
  · rintro ⟨j, hj, rfl⟩
    have := List.mem_range.mp hj
    omega
  · rintro ⟨h1, h2⟩
    exact ⟨k.toNat, List.mem_range.mpr (by omega), by omega⟩
theorem nI_len (n : Nat) : (nI n).length = n := by unfold nI; rw [List.length_map, List.length_range]
theorem eraseMap {α β : Type} (f : α → β) : ∀ (ns : List α) (j : Nat), (ns.map f).eraseIdx j = (ns.eraseIdx j).map f
  | [], _ => rfl
  | _ :: _, 0 => rfl
  | n :: ns, j + 1 => by
    show f n :: (ns.map f).eraseIdx j = f n :: (ns.eraseIdx j).map f
    rw [eraseMap f ns j]
theorem small30 {n : Nat} (h : n ≤ 1000) : n ≤ sizeLine := Nat.le_of_lt (small1000 h)
def codes8 : List Str := ["q", "w", "a", "zz9", "enter", "bksp", "a1b2c3d", "00000000"]
theorem codes_ok : ∀ c ∈ codes8, CodeOk c := by decide +kernel
theorem getC {d : Int} (h0 : 0 ≤ d) (h1 : d < 8) : ∃ c, atI (codes8.map V.str) d = some (.str c) ∧ CodeOk c := by
  have hd : d.toNat < codes8.length := by show d.toNat < 8; omega
  refine ⟨codes8[d.toNat], ?_, codes_ok _ (List.getElem_mem hd)⟩
  refine at_of (j := d.toNat) (by omega) ?_
  rw [List.getElem?_map, List.getElem?_eq_getElem hd]
  rfl
/-- other than at these two, nothing changes -/
def Off2 (r c : Addr) (H H' : Hp) : Prop := ∀ b o, H b = some o → b ≠ r → b ≠ c → H' b = some o
theorem Off2.same {r c : Addr} {H H1 H2 : Hp} (a : Off2 r c H H1) (s : Same H1 H2) : Off2 r c H H2 := fun b o h x y => s _ _ (a b o h x y)
theorem Off2.off {r c : Addr} {H H1 H2 : Hp} (a : Off2 r c H H1) (s : Off r H1 H2) : Off2 r c H H2 := fun b o h x y => s _ _ (a b o h x y) x
theorem Off2.new {r c p : Addr} {o : HO} {H H1 : Hp} (a : Off2 r c H H1) (n : H p = none) : Off2 r c H (upd H1 p o) := fun b x h y z => by rw [upd_ne (ne_of_none h n)]; exact a b x h y z
theorem Off2.at_ {r c : Addr} {o : HO} {H H1 : Hp} (a : Off2 r c H H1) : Off2 r c H (upd H1 c o) := fun b x h y z => by rw [upd_ne z]; exact a b x h y z
section
variable {P : Program} {w : World} {K : PySem.W.Frag} {mg : Str → Option Value} {base : Heap}
def spLCombos : Sp := fun vs H Q _ => ∃ (r : Addr) (k m : Nat) (top : Int), vs = [.ref r, .int (m : Int), .int top] ∧ Reel H r k ∧ k + 1000 < most ∧ 1 ≤ m ∧ m ≤ 10 ∧ 1 ≤ top ∧ top ≤ 10 ^ 9 ∧
  ∀ H' p cbs, Off r H H' → H p = none → Reel H' r (k + 100) → Cmbs H' p cbs → CbsOk m cbs → Q (.ref p) H'
theorem ok__law_combos (bt : Bt mg) (a : At K mg "_law_combos" s__law_combos ["_law_spring_here", "_law_many", "_law_top"]) (c__law_take : Cl P w K mg base 1 "_law_take" spDraw) : Cl P w K mg base 2 "_law_combos" spLCombos := by
  refine clG a sc__law_combos (fun vs H Q E h => ?_) (fun f cdv A outer s H vs Q hg hr h => ?_)
  · obtain ⟨r, k, m, top, rfl, _⟩ := h
    rfl
  · obtain ⟨r, k, m, top, rfl, R, hk, hm1, hm2, t1, t2, q⟩ := h
    have hk' : k + 1000 < 1000000000 := hk
    have big : (10 : Int) ^ 40 > 10 ^ 10 := by decide
    refine ⟨_, (pss_cons (ps_set (i := 3) sc__law_combos.nd rfl (Or.inl rfl) (pe_lst pa_nil))
      (pss_cons (ps_for PassesOwn.never rfl (pi_range1 (by rfl) bt.m_range (pa_cons (pe_op op_mulW (pe_cl c__law_take hg hr (by decide) (by rfl) (pa_cons (pv 0) (pa_cons pe_int pa_nil))) (pe_callTy call_int1 (by rfl) bt.m_int (by decide +kernel) (pa_cons (pe_cmpR op_gt (pv 1) pe_int (nomark _)) pa_nil))) pa_nil)) (pg_name (i := 4) sc__law_combos.nd rfl (Or.inl rfl)) (pss_cons (ps_set (i := 5) sc__law_combos.nd rfl (Or.inr rfl) (pe_listRg rfl (by rfl) bt.m_list (prg_1 (by rfl) bt.m_range (pe_ix ix_list (pe_lst (pa_cons (pe_callB (call_min2 rfl) (by rfl) bt.m_min (by decide +kernel) (pa_cons (pv 1) (pa_cons pe_int pa_nil))) (pa_cons (pv 1) pa_nil))) (pe_cl c__law_take hg hr (by decide) (by rfl) (pa_cons (pv 0) (pa_cons pe_int pa_nil))) (fun _ _ => rfl)))))
      (pss_cons (ps_set (i := 6) sc__law_combos.nd rfl (Or.inl rfl) (pe_callB (call_min2 rfl) (by rfl) bt.m_min (by decide +kernel) (pa_cons (pe_callB call_len_seq (by rfl) bt.m_len (by decide +kernel) (pa_cons (pv 5) pa_nil)) (pa_cons (pe_op op_add pe_int (pe_cl c__law_take hg hr (by decide) (by rfl) (pa_cons (pv 0) (pa_cons pe_int pa_nil)))) pa_nil))))
      (pss_cons (ps_set (i := 7) sc__law_combos.nd rfl (Or.inl rfl) (pe_callTy call_tuple_of (by rfl) bt.m_tuple (by decide +kernel) (pa_cons (pe_callB cr_sortedI (by rfl) bt.m_sorted (by decide +kernel) (pa_cons (pe_lc (own := [("_law_part", 11)]) (g := (gName 11)) (by rfl) sc__law_combos.nd (pi_range1 (by rfl) bt.m_range (pa_cons (pv 6) pa_nil)) (blkOk_by (N := n__law_combos) (sc := defScope s__law_combos) (by decide +kernel)) (fun _ _ _ _ _ => (pg_name (i := 11) sc__law_combos.nd rfl (Or.inl rfl))) (fun _ _ _ _ _ => pts_nil) (fun _ _ _ _ _ => (pe_bmB (K0 := K) rfl PySem.F.plainAttrs_list PySem.F.slot_list_pop PySem.F.type_list_pop mt_popAt (pv 5) (pa_cons (pe_cl c__law_take hg hr (by decide) (by rfl) (pa_cons (pv 0) (pa_cons (pe_callB (r := rLenB K) call_len_seq (by rfl) bt.m_len (by decide +kernel) (pa_cons (pv 5) pa_nil)) pa_nil))) pa_nil)))) pa_nil)) pa_nil)))
      (pss_cons (ps_set (i := 8) sc__law_combos.nd rfl (Or.inl rfl) (pe_op op_add pe_int (pe_cl c__law_take hg hr (by decide) (by rfl) (pa_cons (pv 0) (pa_cons (pe_ix ix_list (pe_lst (pa_cons pe_int (pa_cons pe_int (pa_cons (pv 2) pa_nil)))) (pe_cl c__law_take hg hr (by decide) (by rfl) (pa_cons (pv 0) (pa_cons pe_int pa_nil))) (fun _ _ => rfl)) pa_nil)))))
      (pss_cons (ps_set (i := 9) sc__law_combos.nd rfl (Or.inl rfl) (pe_ix ix_list (pe_lst (pa_cons pe_str (pa_cons pe_str (pa_cons pe_str (pa_cons pe_str (pa_cons pe_str (pa_cons pe_str (pa_cons pe_str (pa_cons pe_str pa_nil))))))))) (pe_cl c__law_take hg hr (by decide) (by rfl) (pa_cons (pv 0) (pa_cons pe_int pa_nil))) (fun _ _ => rfl)))
      (pss_one (ps_if (pt_cmpR (op_notInD (room65 hr)) (pv 7) (pe_lc (own := [("_law_combo", 10)]) (g := (gName 10)) (by rfl) sc__law_combos.nd (pi_list (pv 3)) (blkOk_by (N := n__law_combos) (sc := defScope s__law_combos) (by decide +kernel)) (fun _ _ _ _ _ => (pg_name (i := 10) sc__law_combos.nd rfl (Or.inl rfl))) (fun _ _ _ _ _ => pts_nil) (fun _ _ _ _ _ => (pe_ix (r := rIxT K) ix_tup (pv 10) pe_int (fun _ _ => rfl)))) (by rfl)) (pss_one (ps_expr (pe_bm PySem.F.plainAttrs_list PySem.F.slot_list_append PySem.F.type_list_append mt_append (pv 3) (pa_cons (pe_tup (pa_cons (pv 7) (pa_cons (pv 8) (pa_cons (pv 9) pa_nil)))) pa_nil)))) pss_nil))))))))
      (pss_one (ps_ret (pv 3))))), ?_⟩
    refine ⟨Nat.zero_le _, fun F nF => ?_⟩
    have sF := same_upd (o := .lst []) nF
    have Fr : F ≠ r := R.new nF
    refine ⟨_, rfl, r, 7, k, rfl, by decide, by decide, by show k < 1000000000; omega, R.same sF, fun d1 H1 d10 d11 R1 o1 => ?_⟩
    refine ⟨_, rfl, _, _, rfl, rfl, .inr ⟨_, rfl, ?_⟩⟩
    have hb : ∀ b : Bool, (if b = true then (1 : Int) else 0) = 0 ∨ (if b = true then (1 : Int) else 0) = 1 := fun b => by cases b <;> decide
    refine ⟨_, _, rfl, rfl, wide_mul (a := 40) (b := 40) (by omega) (by have := hb (decide ((m : Int) > 1)); omega) (by decide) (by decide) (by decide), ?_⟩
    have hN : ∃ N : Nat, d1 * (if decide ((m : Int) > 1) = true then 1 else 0) = (N : Int) ∧ N ≤ 6 ∧ (0 < N → 2 ≤ m) := by
      by_cases z : (m : Int) > 1
      · refine ⟨d1.toNat, ?_, by omega, fun _ => by omega⟩
        rw [decide_eq_true z, if_pos rfl]; omega
      · refine ⟨0, ?_, by omega, fun h => by omega⟩
        rw [decide_eq_false z, if_neg (by decide)]; omega
    obtain ⟨N, eN, hN6, hN2⟩ := hN
    have hF1 := o1 _ _ (upd_same (a := F) (o := .lst [])) Fr
    have ob : Off r H H1 := (Off.of sF).trans o1
    refine ⟨_, rfl, by rw [eN]; omega, by rw [eN]; omega, ?_⟩
    rw [eN, Int.toNat_natCast]
    refine for_it walk_range (fun i σ H' => ∃ (y4 y5 y6 y7 y8 y9 y10 y11 : Option V) (cbs : List Cmb), σ = [some (.ref r), some (.int (m : Int)), some (.int top), some (.ref F), y4, y5, y6, y7, y8, y9, y10, y11] ∧ Off r H H' ∧ Reel H' r (k + 1 + 10 * i) ∧ Cmbs H' F cbs ∧ CbsOk m cbs ∧ cbs.length ≤ i)
      ⟨_, _, _, _, _, _, _, _, [], rfl, ob, R1, ⟨[], hF1, rfl, fun i v cb h => by simp at h⟩, CbsOk.nil _, Nat.le_refl _⟩ (fun _ _ _ _ _ => True.intro) (fun i x σ H2 H3 hi p y => ?_) (fun σ H2 p => ?_)
    · obtain ⟨y4, y5, y6, y7, y8, y9, y10, y11, cbs, rfl, o2, R2, hC2, ok, hcl⟩ := p
      obtain ⟨rfl, rfl⟩ := y
      have hm := hN2 (by omega)
      -- some
      refine ⟨_, rfl, _, _, rfl, ?_⟩
      refine ⟨_, rfl, (by show 2 ≤ sizeLine; decide), fun W1 nW1 => ?_⟩
      have mn : ∃ v : Nat, (if (4 : Int) < (m : Int) then (4 : Int) else (m : Int)) = (v : Int) ∧ 2 ≤ v ∧ v ≤ m := by
        by_cases z : (4 : Int) < (m : Int)
        · exact ⟨4, by rw [if_pos z]; rfl, by decide, by omega⟩
        · exact ⟨m, by rw [if_neg z], by omega, Nat.le_refl _⟩
      obtain ⟨mv, emv, mv1, mv2⟩ := mn
      rw [emv] at *
      have k1 := same_upd (o := .lst [.int (mv : Int), .int (m : Int)]) nW1
      refine ⟨_, rfl, r, 2, k + 1 + 10 * i, rfl, by decide, by decide, by show _ < 1000000000; omega, R2.same k1, fun d2 H4 d20 d21 R4 o4 => ?_⟩
      have W1r : W1 ≠ r := R2.new nW1
      have hW1 : H4 W1 = some (.lst (([(mv : Int), (m : Int)] : List Int).map V.int)) := o4 _ _ upd_same W1r
      obtain ⟨sv, asv, msv⟩ := getI (ns := ([(mv : Int), (m : Int)] : List Int)) d20 (by show d2 < 2; exact d21)
      obtain ⟨M, rfl, hM1, hM2⟩ : ∃ M : Nat, sv = (M : Int) ∧ 2 ≤ M ∧ M ≤ m := by
        have hmm := List.mem_of_getElem? msv
        simp only [List.mem_cons, List.mem_nil_iff, or_false] at hmm
        rcases hmm with rfl | rfl
        · exact ⟨mv, rfl, mv1, mv2⟩
        · exact ⟨m, rfl, hm, Nat.le_refl _⟩
      refine ⟨W1, _, d2, _, rfl, rfl, SqL.of hW1, asv, _, rfl, ⟨by omega, by omega, by omega, by omega, by omega⟩, fun Sm nSm => ?_⟩
      rw [rgV_nI]
      have k2 := same_upd (o := .lst ((nI M).map V.int)) nSm
      have Smr : Sm ≠ r := R4.new nSm
      have o24 : Off r _ H4 := (Off.of k1).trans o4
      have hC4 := hC2.go (R2.tk o24) (fun vs h => o24 _ _ h Fr)
      have hC5 := hC4.same k2
      have R5 := R4.same k2
      have oH5 := (o2.trans o24).sameTrans k2
      have nSmH : H Sm = none := R4.free (o2.trans o24) nSm
      have FS : F ≠ Sm := by
        obtain ⟨vs, hF4, _⟩ := id hC4
        exact ne_of_none hF4 nSm
      have hS5 := upd_same (H := H4) (a := Sm) (o := .lst ((nI M).map V.int))
      refine (fun (G : ∀ H5 : Hp, Reel H5 r (k + 1 + 10 * i + 1) → Cmbs H5 F cbs → Rm.Off r H H5 → H5 Sm = some (.lst ((nI M).map V.int)) → _) => G _ R5 hC5 oH5 hS5) (fun H5 R5 hC5 oH5 hS5 => ?_)
      -- size
      refine ⟨_, rfl, Sm, _, rfl, .inl (SqL.of hS5), ?_⟩
      refine ⟨_, rfl, r, 2, k + 1 + 10 * i + 1, rfl, by decide, by decide, by show _ < 1000000000; omega, R5, fun d3 H6 d30 d31 R6 o6 => ⟨_, _, rfl, rfl, _, _, rfl, ?_⟩⟩
      rw [List.length_map, nI_len]
      obtain ⟨sz, esz, sz1, sz2⟩ : ∃ sz : Nat, (if 2 + d3 < ((M : Nat) : Int) then 2 + d3 else ((M : Nat) : Int)) = (sz : Int) ∧ (sz = 2 ∨ sz = 3) ∧ sz ≤ M := by
        by_cases z : 2 + d3 < ((M : Nat) : Int)
        · refine ⟨(2 + d3).toNat, by rw [if_pos z]; omega, by omega, by omega⟩
        · refine ⟨M, by rw [if_neg z], by omega, Nat.le_refl _⟩
      rw [esz]
      have hS6 := o6 _ _ hS5 Smr
      have hC6 := hC5.go (R5.tk o6) (fun vs h => o6 _ _ h Fr)
      have oH6 := oH5.trans o6
      -- keys
      refine ⟨_, rfl, _, rfl, by omega, by omega, ?_⟩
      rw [Int.toNat_natCast]
      refine fun Pp nPp => lc_it walk_range (fun j H' => Off2 r Sm H6 H' ∧ Reel H' r (k + 1 + 10 * i + 2 + j) ∧ ∃ rem got : List Int, H' Sm = some (.lst (rem.map V.int)) ∧ H' Pp = some (.lst (got.map V.int)) ∧ rem.Nodup ∧ got.Nodup ∧ got.length = j ∧ rem.length + j = M ∧ (∀ x ∈ rem, 0 ≤ x ∧ x < (m : Int)) ∧ (∀ x ∈ got, (0 ≤ x ∧ x < (m : Int)) ∧ ¬ x ∈ rem))
        ⟨fun b o h _ _ => same_upd nPp _ _ h, R6.same (same_upd nPp), nI M, [], (same_upd nPp) _ _ hS6, upd_same, nI_nd M, List.nodup_nil, rfl, nI_len M, fun x hx => by have := nI_mem.mp hx; omega, fun x h => by simp at h⟩ (fun _ _ _ _ => True.intro) (fun j x H7 H8 hj p y => ?_) (fun H7 p => ?_)
      · obtain ⟨o7, R7, rem, got, hS7, hP7, nd1, nd2, hgl, hrl, hr1, hg1⟩ := p
        obtain ⟨rfl, rfl⟩ := y
        have PpS : Pp ≠ Sm := (ne_of_none hS6 nPp).symm
        have Ppr : Pp ≠ r := R6.new nPp
        refine ⟨rfl, _, rfl, .inl ⟨rfl, _, SqL.of hS7⟩, ?_⟩
        refine ⟨_, rfl, _, rfl, Sm, _, rfl, .inl (SqL.of hS7), r, _, k + 1 + 10 * i + 2 + j, rfl, by rw [List.length_map]; omega, by rw [List.length_map]; omega, by show _ < 1000000000; omega, R7, fun e H9 e0 e1 R9 o9 => ?_⟩
        rw [List.length_map] at e1
        have hS9 := o9 _ _ hS7 Smr
        have hP9 := o9 _ _ hP7 Ppr
        obtain ⟨ej, rfl⟩ := Int.eq_ofNat_of_zero_le e0
        have hej : ej < rem.length := by omega
        have hix := seqIndex_of (k := (ej : Int)) (n := (rem.map V.int).length) (by omega) (by rw [List.length_map]; omega)
        rw [Int.toNat_natCast] at hix
        have gx : rem[ej]? = some rem[ej] := List.getElem?_eq_getElem hej
        refine ⟨Sm, _, _, ej, .int rem[ej], rfl, rfl, hS9, by omega, by omega, hix, get_map_int gx, ?_⟩
        rw [eraseMap]
        have hP10 : upd H9 Sm (.lst ((rem.eraseIdx ej).map V.int)) Pp = some (.lst (got.map V.int)) := by rw [upd_ne PpS]; exact hP9
        refine ⟨_, hP10, by rw [List.length_map]; exact small1000 (by omega), ((o7.off o9).at_).new nPp, (R9.upd Smr).upd Ppr, rem.eraseIdx ej, got ++ [rem[ej]], by rw [upd_ne PpS.symm, upd_same], by rw [upd_same, List.map_append]; rfl, nd1.eraseIdx ej, nd_snoc nd2 (fun h => (hg1 _ h).2 (List.getElem_mem hej)), by rw [List.length_append, hgl]; rfl, by rw [List.length_eraseIdx, if_pos hej]; omega, fun x hx => hr1 x (List.mem_of_mem_eraseIdx hx), fun x hx => ?_⟩
        rcases List.mem_append.mp hx with h | h
        · exact ⟨(hg1 x h).1, fun z => (hg1 x h).2 (List.mem_of_mem_eraseIdx z)⟩
        · rw [List.mem_singleton.mp h]
          exact ⟨hr1 _ (List.getElem_mem hej), fun z => ((mem_eraseIdx nd1 gx _).mp z).1 rfl⟩
      · obtain ⟨o7, R7, rem, got, hS7, hP7, nd1, nd2, hgl, hrl, hr1, hg1⟩ := p
        refine ⟨Pp, got, rfl, SqL.of hP7, fun ks Sd hpk hok nSd => ?_⟩
        have k8 := same_upd (o := .lst (ks.map V.int)) nSd
        refine ⟨Sd, _, rfl, .inl ⟨SqL.of upd_same, fun Kt nKt => ?_⟩⟩
        have k9 := same_upd (o := .tup (ks.map V.int)) nKt
        have oH9 : Off r H (upd (upd H7 Sd (.lst (ks.map V.int))) Kt (.tup (ks.map V.int))) := fun b o h n => (k8.trans k9) _ _ (o7 _ _ (oH6 _ _ h n) n (ne_of_none h nSmH))
        have R9 := (R7.same k8).same k9
        have hC9 : Cmbs (upd (upd H7 Sd (.lst (ks.map V.int))) Kt (.tup (ks.map V.int))) F cbs := hC6.go (fun b xs h => (k8.trans k9) _ _ (o7 _ _ h (by
          obtain ⟨_, _, _, hr6, _⟩ := id R6
          exact ne_of h hr6 (by intro z; cases z)) (ne_of h hS6 (by intro z; cases z)))) (fun vs h => (k8.trans k9) _ _ (o7 _ _ h Fr FS))
        have hKt := upd_same (H := upd H7 Sd (.lst (ks.map V.int))) (a := Kt) (o := .tup (ks.map V.int))
        have kasc : ks.Pairwise (· < ·) := (hok.and (hpk.nodup_iff.mpr nd2)).imp fun h => by have := h.1; have := h.2; omega
        have klen : ks.length = 2 ∨ ks.length = 3 := by rw [hpk.length_eq, hgl]; exact sz1
        have kkey : ∀ x ∈ ks, 0 ≤ x ∧ x < (m : Int) := fun x hx => (hg1 x (hpk.mem_iff.mp hx)).1
        refine (fun (G : ∀ H9 : Hp, Reel H9 r (k + 1 + 10 * i + 5) → Cmbs H9 F cbs → Rm.Off r H H9 → H9 Kt = some (.tup (ks.map V.int)) → _) => G _ (R9.mono (by omega)) hC9 oH9 hKt) (fun H9 R9 hC9 oH9 hKt => ?_)
        -- time
        refine ⟨_, rfl, _, rfl, (by show 3 ≤ sizeLine; decide), fun W2 nW2 => ?_⟩
        have k10 := same_upd (o := .lst [.int 4, .int 12, .int top]) nW2
        refine ⟨_, rfl, r, 3, k + 1 + 10 * i + 5, rfl, by decide, by decide, by show _ < 1000000000; omega, R9.same k10, fun d4 H11 d40 d41 R11 o11 => ?_⟩
        have W2r : W2 ≠ r := R9.new nW2
        have hW2 : H11 W2 = some (.lst (([4, 12, top] : List Int).map V.int)) := o11 _ _ upd_same W2r
        obtain ⟨tv, atv, mtv⟩ := getI (ns := ([4, 12, top] : List Int)) d40 (by show d4 < 3; exact d41)
        have htv : 1 ≤ tv ∧ tv ≤ 10 ^ 9 := by
          have hmm := List.mem_of_getElem? mtv
          simp only [List.mem_cons, List.mem_nil_iff, or_false] at hmm
          omega
        refine ⟨W2, _, d4, _, rfl, rfl, SqL.of hW2, atv, r, tv, k + 1 + 10 * i + 6, rfl, by omega, by omega, by show _ < 1000000000; omega, R11, fun tt H12 tt0 tt1 R12 o12 => ⟨_, _, rfl, rfl, ?_⟩⟩
        -- code
        refine ⟨(by show 8 ≤ sizeLine; decide), fun W3 nW3 => ?_⟩
        have k13 := same_upd (o := .lst (codes8.map V.str)) nW3
        refine ⟨_, rfl, r, 8, k + 1 + 10 * i + 7, rfl, by decide, by decide, by show _ < 1000000000; omega, R12.same k13, fun d5 H14 d50 d51 R14 o14 => ?_⟩
        have W3r : W3 ≠ r := R12.new nW3
        have hW3 : H14 W3 = some (.lst (codes8.map V.str)) := o14 _ _ upd_same W3r
        obtain ⟨cc, acc, hcc⟩ := getC d50 d51
        refine ⟨W3, _, d5, _, rfl, rfl, SqL.of hW3, acc, ?_⟩
        have o914 : Off r H9 H14 := ((((Off.of k10).trans o11).trans o12).sameTrans k13).trans o14
        have tk914 := R9.tk o914
        have hC14 := hC9.go tk914 (fun vs h => o914 _ _ h Fr)
        have hKt14 := tk914 _ _ hKt
        have oH14 := oH9.trans o914
        obtain ⟨vs, hF14, hCv⟩ := id hC14
        have hvl := hCv.1
        -- not in
        refine ⟨_, rfl, _, rfl, F, rfl, ⟨_, SqL.of hF14⟩, fun Ky nKy => lc_it (walk_list (xs := vs)) (fun j H' => Same H14 H' ∧ Lst ksV H' Ky ((cbs.take j).map Cmb.ks)) ⟨same_upd nKy, [], upd_same, Tups.nil⟩ (fun j H' _ p => SqL.of (p.1 _ _ hF14)) (fun j v H15 H16 hj p y => ?_) (fun H15 p => ?_)⟩
        · obtain ⟨rfl, e2⟩ := y
          obtain ⟨p1, as, hKy, hT⟩ := p
          have hj' : j < cbs.length := by omega
          obtain ⟨ad, kk, hv, ha, hkk⟩ := Cmbs.at_ hCv hj'
          have e2' : v = .ref ad := Option.some.inj (e2.symm.trans hv)
          subst e2'
          have hal := hT.1
          refine ⟨rfl, _, rfl, ad, _, _, _, rfl, rfl, SqT.of (p1 _ _ ha), atI_nat (j := 0) rfl, _, hKy, ?_, Same.off p1 nKy off_upd, as ++ [kk], by rw [upd_same, List.map_append]; rfl, ?_⟩
          · rw [List.length_map, hal, List.length_map, List.length_take]; exact small1000 (by omega)
          · rw [List.take_add_one, List.getElem?_eq_getElem hj', List.map_append]
            refine Tups.snoc (hT.off hKy off_upd) ?_
            have := p1 _ _ hkk
            rw [upd_ne (ne_of this hKy (by intro z; cases z))]
            exact this
        · obtain ⟨p1, as, hKy, hT⟩ := p
          rw [hvl, List.take_length] at hT
          refine ⟨ksD ks, (cbs.map Cmb.ks).map ksD, .tup (SqT.of (p1 _ _ hKt14)) (dpInts _), .lst (SqL.of hKy) (dpAll_of (fun a e h => .tup (SqT.of h) (dpInts e)) as _ hT), shaped_ks _, shaped_kss _, _, rfl, ?_⟩
          rw [any_ks]
          have R15 := R14.same p1
          have hC15 := hC14.same p1
          have oH15 := oH14.sameTrans p1
          obtain ⟨vs5, hF15, hCv5⟩ := id hC15
          have hvl5 := hCv5.1
          refine ite2 (fun z => ?_) (fun z => ?_)
          · have zn : ¬ ks ∈ cbs.map Cmb.ks := fun h => by rw [decide_eq_true h] at z; cases z
            refine ⟨_, rfl, .inl ⟨rfl, _, SqL.of hF15⟩, _, rfl, _, rfl, _, rfl, (by show 3 ≤ sizeLine; decide), fun p np => ?_⟩
            have kp := same_upd (o := .tup [.ref Kt, .int (1 + tt), .str cc]) np
            have hF16 := kp _ _ hF15
            refine ⟨F, _, .ref p, rfl, rfl, hF16, by rw [hvl5]; exact small1000 (by omega), ?_⟩
            have pF : p ≠ F := (ne_of_none hF15 np).symm
            have tkF : Tk (upd H15 p (.tup [.ref Kt, .int (1 + tt), .str cc])) (upd (upd H15 p (.tup [.ref Kt, .int (1 + tt), .str cc])) F (.lst (vs5 ++ [.ref p]))) := tk_upd hF16
            refine ⟨_, _, _, _, _, _, _, _, cbs ++ [⟨ks, 1 + tt, cc⟩], rfl, (oH15.sameTrans kp).new nF, ((R15.same kp).upd Fr).mono (by omega), ⟨vs5 ++ [.ref p], upd_same, by rw [List.length_append, List.length_append, hvl5]; rfl, fun j v cb x y => ?_⟩, ⟨fun cb hc => ?_, by rw [List.length_append, List.length_singleton]; omega, ?_⟩, by rw [List.length_append, List.length_singleton]; omega⟩
            · rcases Nat.lt_or_ge j vs5.length with q | q
              · rw [List.getElem?_append_left q] at x
                rw [List.getElem?_append_left (by omega)] at y
                exact ((hCv5.2 j v cb x y).tk (Tk.of kp)).tk tkF
              · have hj : j = vs5.length := by
                  have := (List.getElem?_eq_some_iff.mp x).1
                  rw [List.length_append, List.length_singleton] at this
                  omega
                subst hj
                rw [List.getElem?_append_right (Nat.le_refl _), Nat.sub_self] at x
                rw [List.getElem?_append_right (by omega), show vs5.length - cbs.length = 0 by omega] at y
                have e1 : V.ref p = v := Option.some.inj x
                have e2 : (⟨ks, 1 + tt, cc⟩ : Cmb) = cb := Option.some.inj y
                subst e1 e2
                exact ⟨p, Kt, rfl, tkF _ _ upd_same, tkF _ _ (kp _ _ (p1 _ _ hKt14))⟩
            · rcases List.mem_append.mp hc with h | h
              · exact ok.all cb h
              · rw [List.mem_singleton.mp h]
                exact ⟨kasc, klen, kkey, ⟨by show 1 ≤ 1 + tt; omega, by show 1 + tt ≤ 10 ^ 9; omega⟩, hcc⟩
            · rw [List.map_append]
              exact List.nodup_append.mpr ⟨ok.apart, by simp, fun a ha b hb => by
                rw [List.mem_singleton.mp hb]
                exact fun e => zn (by rw [show a = ks from e] at ha; exact ha)⟩
          · exact ⟨_, _, _, _, _, _, _, _, cbs, rfl, oH15, R15.mono (by omega), hC15, ok, by omega⟩
    · obtain ⟨y4, y5, y6, y7, y8, y9, y10, y11, cbs, rfl, o2, R2, hC2, ok, hcl⟩ := p
      exact ⟨_, rfl, q H2 F cbs o2 nF (R2.mono (by omega)) hC2 ok⟩
end
end K24

set_option Elab.async false
set_option linter.all false
set_option maxRecDepth 100000
set_option maxHeartbeats 8000000
namespace K24
open PySem PySem.Spec PyProof.Rows L2 Gd Rm La Cb
theorem down_cut (ns : List Int) (k : Int) : ns.filter (fun x => decide (x ≠ k)) = ns.filter fun x => !decide (x = k) := by
  refine List.filter_congr fun x _ => ?_
  by_cases z : x = k <;> simp [z]
section
variable {P : Program} {w : World} {K : PySem.W.Frag} {mg : Str → Option Value} {base : Heap}
def spSpace : Sp := fun vs H Q _ => ∃ (r T : Addr) (k : Nat) (ts : List Int), vs = [.ref r, .ref T] ∧ Reel H r k ∧ k + 1000 < most ∧ H T = some (.lst (ts.map V.int)) ∧ T ≠ r ∧ 0 < ts.length ∧ ts.length ≤ 10 ∧ (∀ t ∈ ts, 1 ≤ t ∧ t ≤ 10 ^ 9) ∧
  ∀ H' d, Off r H H' → Reel H' r (k + 10) → 0 ≤ d → d ≤ 10 ^ 9 → Q (.int d) H'
theorem ok__law_space (bt : Bt mg) (a : At K mg "_law_space" s__law_space ["_law_spring_here", "_law_times"]) (c__law_take : Cl P w K mg base 1 "_law_take" spDraw) : Cl P w K mg base 2 "_law_space" spSpace := by
  refine clG a sc__law_space (fun vs H Q E h => ?_) (fun f cdv A outer s H vs Q hg hr h => ?_)
  · obtain ⟨r, T, k, ts, rfl, _⟩ := h
    rfl
  · obtain ⟨r, T, k, ts, rfl, R, hk, hT, Tr, l0, l1, hts, q⟩ := h
    have hk' : k + 1000 < 1000000000 := hk
    have big : (10 : Int) ^ 40 > 10 ^ 10 := by decide
    refine ⟨_, (pss_cons (ps_set (i := 2) sc__law_space.nd rfl (Or.inl rfl) (pe_ix ix_list (pv 1) (pe_cl c__law_take hg hr (by decide) (by rfl) (pa_cons (pv 0) (pa_cons (pe_callB call_len_seq (by rfl) bt.m_len (by decide +kernel) (pa_cons (pv 1) pa_nil)) pa_nil))) (fun _ _ => rfl)))
      (pss_one (ps_ret (pe_ix ix_list (pe_lst (pa_cons pe_int (pa_cons pe_int (pa_cons pe_int (pa_cons pe_int (pa_cons (pe_cl c__law_take hg hr (by decide) (by rfl) (pa_cons (pv 0) (pa_cons pe_int pa_nil))) (pa_cons (pe_op op_sub (pv 2) pe_int) (pa_cons (pv 2) (pa_cons (pe_cl c__law_take hg hr (by decide) (by rfl) (pa_cons (pv 0) (pa_cons (pe_op op_add (pv 2) pe_int) pa_nil))) pa_nil))))))))) (pe_cl c__law_take hg hr (by decide) (by rfl) (pa_cons (pv 0) (pa_cons pe_int pa_nil))) (fun _ _ => rfl))))), ?_⟩
    refine ⟨_, rfl, _, rfl, _, rfl, T, _, rfl, .inl (SqL.of hT), r, _, k, rfl, by rw [List.length_map]; omega, by rw [List.length_map]; omega, by show k < 1000000000; omega, R, fun d1 H1 d10 d11 R1 o1 => ?_⟩
    rw [List.length_map] at d11
    obtain ⟨tv, atv, mtv⟩ := getI (ns := ts) d10 (by omega)
    have htv := hts tv (List.mem_of_getElem? mtv)
    refine ⟨T, _, d1, _, rfl, rfl, SqL.of (o1 _ _ hT Tr), atv, ?_⟩
    refine ⟨_, rfl, r, 6, k + 1, rfl, by decide, by decide, by show _ < 1000000000; omega, R1, fun d2 H2 d20 d21 R2 o2 => ?_⟩
    refine ⟨_, rfl, _, _, rfl, rfl, _, rfl, _, rfl, _, rfl, _, _, rfl, rfl, r, _, k + 2, rfl, by omega, by omega, by show _ < 1000000000; omega, R2, fun d3 H3 d30 d31 R3 o3 => ⟨(by show 8 ≤ sizeLine; decide), fun W nW => ?_⟩⟩
    have kW := same_upd (o := .lst (([0, 0, 1, 1, d2, tv - 1, tv, d3] : List Int).map V.int)) nW
    refine ⟨_, rfl, r, 8, k + 3, rfl, by decide, by decide, by show _ < 1000000000; omega, R3.same kW, fun d4 H4 d40 d41 R4 o4 => ?_⟩
    have Wr : W ≠ r := R3.new nW
    have hW : H4 W = some (.lst (([0, 0, 1, 1, d2, tv - 1, tv, d3] : List Int).map V.int)) := o4 _ _ upd_same Wr
    obtain ⟨v, av, mv⟩ := getI (ns := ([0, 0, 1, 1, d2, tv - 1, tv, d3] : List Int)) d40 (by show d4 < 8; exact d41)
    have hv : 0 ≤ v ∧ v ≤ 10 ^ 9 := by
      have hm := List.mem_of_getElem? mv
      simp only [List.mem_cons, List.mem_nil_iff, or_false] at hm
      omega
    exact ⟨W, _, d4, _, rfl, rfl, SqL.of hW, av, q H4 v (((o1.trans o2).trans o3).sameTrans kW |>.trans o4) (R4.mono (by omega)) hv.1 hv.2⟩
structure RcOk (m : Int) (size : Nat) (es : List Ev) : Prop where
  valid : Valid es
  len : es.length = size
  key : ∀ e ∈ es, 0 ≤ e.k ∧ e.k < m
  tick : ∀ e ∈ es, -(10 ^ 20) < e.t ∧ e.t < 10 ^ 20
def spPresses : Sp := fun vs H Q _ => ∃ (r T : Addr) (k m size : Nat) (ts : List Int), vs = [.ref r, .int (m : Int), .int (size : Int), .ref T] ∧ Reel H r k ∧ k + 10000 < most ∧ 1 ≤ m ∧ m ≤ 10 ∧ size ≤ 200 ∧ H T = some (.lst (ts.map V.int)) ∧ T ≠ r ∧ 0 < ts.length ∧ ts.length ≤ 10 ∧ (∀ t ∈ ts, 1 ≤ t ∧ t ≤ 10 ^ 9) ∧
  ∀ H' p es, Off r H H' → H p = none → Reel H' r (k + 4000) → Lst evV H' p es → RcOk m size es → Q (.ref p) H'
theorem ok__law_presses (bt : Bt mg) (a : At K mg "_law_presses" s__law_presses ["_law_spring_here", "_law_many", "_law_events", "_law_times"]) (c__law_take : Cl P w K mg base 1 "_law_take" spDraw) (c__law_space : Cl P w K mg base 2 "_law_space" spSpace) : Cl P w K mg base 3 "_law_presses" spPresses := by
  refine clG a sc__law_presses (fun vs H Q E h => ?_) (fun f cdv A outer s H vs Q hg hr h => ?_)
  · obtain ⟨r, T, k, m, size, ts, rfl, _⟩ := h
    rfl
  · obtain ⟨r, T, k, m, size, ts, rfl, R, hk, hm1, hm2, hsz, hT, Tr, l0, l1, hts, q⟩ := h
    have hk' : k + 10000 < 1000000000 := hk
    have big : (10 : Int) ^ 40 > 10 ^ 10 := by decide
    refine ⟨_, (pss_cons (ps_asg (pe_tup (pa_cons (pe_ix ix_list (pe_lst (pa_cons pe_int (pa_cons (pe_un un_neg pe_int) (pa_cons (pe_op op_sub pe_int (pe_op op_powW pe_int pe_int)) (pa_cons (pe_op op_sub (pe_op op_powW pe_int pe_int) (pe_op op_powW pe_int pe_int)) pa_nil))))) (pe_cl c__law_take hg hr (by decide) (by rfl) (pa_cons (pv 0) (pa_cons pe_int pa_nil))) (fun _ _ => rfl)) (pa_cons (pe_lst pa_nil) (pa_cons (pe_lst pa_nil) pa_nil)))) (pg_tup rfl (pgs_cons (pg_name (i := 4) sc__law_presses.nd rfl (Or.inl rfl)) (pgs_cons (pg_name (i := 5) sc__law_presses.nd rfl (Or.inr rfl)) (pgs_cons (pg_name (i := 6) sc__law_presses.nd rfl (Or.inl rfl)) pgs_nil)))))
      (pss_cons (ps_set (i := 7) sc__law_presses.nd rfl (Or.inl rfl) (pe_ix ix_list (pe_lst (pa_cons (pe_callB (call_min2 rfl) (by rfl) bt.m_min (by decide +kernel) (pa_cons (pv 1) (pa_cons pe_int pa_nil))) (pa_cons (pv 1) pa_nil))) (pe_cl c__law_take hg hr (by decide) (by rfl) (pa_cons (pv 0) (pa_cons pe_int pa_nil))) (fun _ _ => rfl)))
      (pss_cons (ps_for PassesOwn.never rfl (pi_range1 (by rfl) bt.m_range (pa_cons (pv 2) pa_nil)) (pg_name (i := 8) sc__law_presses.nd rfl (Or.inl rfl)) (pss_cons (ps_setLc (i := 10) (own := [("_law_key", 9)]) (g := (gName 9)) (by rfl) sc__law_presses.nd rfl rfl (sw_true rfl rfl rfl (by decide +kernel)) (pi_range1 (by rfl) bt.m_range (pa_cons (pv 7) pa_nil)) (blkOk_by (N := n__law_presses) (sc := defScope s__law_presses) (by decide +kernel)) (fun _ _ _ _ _ => (pg_name (i := 9) sc__law_presses.nd rfl (Or.inl rfl))) (fun _ _ _ _ _ => (pts_one (pt_cmpR (r := rIn K true) op_notIn_seq (pv 9) (pv 5) (by rfl)))) (fun _ _ _ _ _ => (pv 9)))
      (C8.pss_cut (ps_set (i := 11) sc__law_presses.nd rfl (Or.inl rfl) (pe_ifExp (PW.pt (pw_or (pt_cmpR (op_eqD hr.units) (pv 10) (pe_lst pa_nil) (nomark _)) (pw_or1 (PW.pt (pw_and (pt_cmpR (op_neD hr.units) (pv 5) (pe_lst pa_nil) (nomark _)) (pw_and1 (pt_cmpR op_eq (pe_cl c__law_take hg hr (by decide) (by rfl) (pa_cons (pv 0) (pa_cons pe_int pa_nil))) pe_int (nomark _)))))))) pe_str pe_str))
      (pss_cons (ps_set (i := 12) sc__law_presses.nd rfl (Or.inl rfl) (pe_ix ix_list (pe_lst (pa_cons (pv 5) (pa_cons (pv 10) pa_nil))) (pe_callTy call_int1 (by rfl) bt.m_int (by decide +kernel) (pa_cons (pe_cmpR op_eq (pv 11) pe_str (nomark _)) pa_nil)) (fun _ _ => rfl)))
      (pss_cons (ps_set (i := 9) sc__law_presses.nd rfl (Or.inr rfl) (pe_ix ix_list (pv 12) (pe_cl c__law_take hg hr (by decide) (by rfl) (pa_cons (pv 0) (pa_cons (pe_callB call_len_seq (by rfl) bt.m_len (by decide +kernel) (pa_cons (pv 12) pa_nil)) pa_nil))) (fun _ _ => rfl)))
      (pss_cons (ps_set (i := 4) sc__law_presses.nd rfl (Or.inl rfl) (pe_op op_add (pv 4) (pe_cl c__law_space hg hr (by decide) (by rfl) (pa_cons (pv 0) (pa_cons (pv 3) pa_nil)))))
      (pss_cons (ps_expr (pe_bm PySem.F.plainAttrs_list PySem.F.slot_list_append PySem.F.type_list_append mt_append (pv 6) (pa_cons (pe_tup (pa_cons (pv 4) (pa_cons (pv 9) (pa_cons (pv 11) pa_nil)))) pa_nil)))
      (pss_one (ps_set (i := 5) sc__law_presses.nd rfl (Or.inr rfl) (pe_op op_cat (pe_lc (own := [("_law_one", 13)]) (g := (gName 13)) (by rfl) sc__law_presses.nd (pi_list (pv 5)) (blkOk_by (N := n__law_presses) (sc := defScope s__law_presses) (by decide +kernel)) (fun _ _ _ _ _ => (pg_name (i := 13) sc__law_presses.nd rfl (Or.inl rfl))) (fun _ _ _ _ _ => (pts_one (pt_cmpR op_ne (pv 13) (pv 9) (nomark _)))) (fun _ _ _ _ _ => (pv 13))) (pe_op op_rep (pe_lst (pa_cons (pv 9) pa_nil)) (pe_callTy call_int1 (by rfl) bt.m_int (by decide +kernel) (pa_cons (pe_cmpR op_eq (pv 11) pe_str (nomark _)) pa_nil)))))))))))))
      (pss_one (ps_ret (pv 6)))))), ?_⟩
    refine ⟨_, rfl, _, _, rfl, rfl, powW (n := 40) (k := 15) (by decide) (by decide), _, _, rfl, rfl, _, _, rfl, rfl, powW (n := 40) (k := 15) (by decide) (by decide), _, _, rfl, rfl, powW (n := 40) (k := 12) (by decide) (by decide), _, _, rfl, rfl, (by show 4 ≤ sizeLine; decide), fun W1 nW1 => ?_⟩
    have k1 := same_upd (o := .lst (([0, -5, 0 - 10 ^ (15 : Int).toNat, 10 ^ (15 : Int).toNat - 10 ^ (12 : Int).toNat] : List Int).map V.int)) nW1
    refine ⟨_, rfl, r, 4, k, rfl, by decide, by decide, by show k < 1000000000; omega, R.same k1, fun d1 H2 d10 d11 R2 o2 => ?_⟩
    have W1r : W1 ≠ r := R.new nW1
    have hW1 := o2 _ _ (upd_same (a := W1) (o := .lst (([0, -5, 0 - 10 ^ (15 : Int).toNat, 10 ^ (15 : Int).toNat - 10 ^ (12 : Int).toNat] : List Int).map V.int))) W1r
    obtain ⟨tick0, at0, mt0⟩ := getI (ns := ([0, -5, 0 - 10 ^ (15 : Int).toNat, 10 ^ (15 : Int).toNat - 10 ^ (12 : Int).toNat] : List Int)) d10 (by show d1 < 4; exact d11)
    have ht0 : -(10 ^ 16) ≤ tick0 ∧ tick0 ≤ 10 ^ 16 := by
      have hm := List.mem_of_getElem? mt0
      have e15 : (10 : Int) ^ (15 : Int).toNat = 10 ^ 15 := rfl
      have e12 : (10 : Int) ^ (12 : Int).toNat = 10 ^ 12 := rfl
      simp only [List.mem_cons, List.mem_nil_iff, or_false, e15, e12] at hm
      omega
    refine ⟨W1, _, d1, _, rfl, rfl, SqL.of hW1, at0, Nat.zero_le _, fun D0 nD0 => ⟨Nat.zero_le _, fun F nF => ⟨(by show 3 ≤ sizeLine; decide), fun T0 nT0 => ⟨T0, _, rfl, SqT.of upd_same, rfl, _, _, rfl, _, _, rfl, _, _, rfl, rfl, ?_⟩⟩⟩⟩
    have kD := same_upd (o := .lst []) nD0
    have kF := same_upd (o := .lst []) nF
    have kT := same_upd (o := .tup [.int tick0, .ref D0, .ref F]) nT0
    have o12 := (Off.of k1).trans o2
    have D0r : D0 ≠ r := R2.new nD0
    have Fr : F ≠ r := (R2.same kD).new nF
    have nDH : H D0 = none := R2.free o12 nD0
    have nFH : H F = none := (R2.same kD).free (o12.sameTrans kD) nF
    have DF : D0 ≠ F := ne_of_none upd_same nF
    have o3 := ((o12.sameTrans kD).sameTrans kF).sameTrans kT
    have R3 := ((R2.same kD).same kF).same kT
    have hD3 := (kF.trans kT) _ _ (upd_same (a := D0) (o := .lst []))
    have hF3 := kT _ _ (upd_same (a := F) (o := .lst []))
    refine (fun (G : ∀ H3 : Hp, Reel H3 r (k + 1) → Rm.Off r H H3 → H3 D0 = some (.lst []) → H3 F = some (.lst []) → _) => G _ R3 o3 hD3 hF3) (fun H3 R3 o3 hD3 hF3 => ?_)
    -- keys
    have mn : ∃ v : Nat, (if (4 : Int) < (m : Int) then (4 : Int) else (m : Int)) = (v : Int) ∧ 1 ≤ v ∧ v ≤ m := by
      by_cases z : (4 : Int) < (m : Int)
      · exact ⟨4, by rw [if_pos z]; rfl, by decide, by omega⟩
      · exact ⟨m, by rw [if_neg z], hm1, Nat.le_refl _⟩
    obtain ⟨mv, emv, mv1, mv2⟩ := mn
    refine ⟨_, rfl, _, _, rfl, ?_⟩
    rw [emv]
    refine ⟨_, rfl, (by show 2 ≤ sizeLine; decide), fun W2 nW2 => ?_⟩
    have k4 := same_upd (o := .lst (([(mv : Int), (m : Int)] : List Int).map V.int)) nW2
    refine ⟨_, rfl, r, 2, k + 1, rfl, by decide, by decide, by show _ < 1000000000; omega, R3.same k4, fun d2 H5 d20 d21 R5 o5 => ?_⟩
    have W2r : W2 ≠ r := R3.new nW2
    have hW2 := o5 _ _ (upd_same (a := W2) (o := .lst (([(mv : Int), (m : Int)] : List Int).map V.int))) W2r
    obtain ⟨kv, akv, mkv⟩ := getI (ns := ([(mv : Int), (m : Int)] : List Int)) d20 (by show d2 < 2; exact d21)
    obtain ⟨ks, rfl, hks1, hks2⟩ : ∃ ks : Nat, kv = (ks : Int) ∧ 1 ≤ ks ∧ ks ≤ m := by
      have hmm := List.mem_of_getElem? mkv
      simp only [List.mem_cons, List.mem_nil_iff, or_false] at hmm
      rcases hmm with rfl | rfl
      · exact ⟨mv, rfl, mv1, mv2⟩
      · exact ⟨m, rfl, hm1, Nat.le_refl _⟩
    have o35 := (Off.of k4).trans o5
    refine ⟨W2, _, d2, _, rfl, rfl, SqL.of hW2, akv, ?_⟩
    refine ⟨_, rfl, (size : Int), rfl, by omega, by omega, ?_⟩
    rw [Int.toNat_natCast]
    refine for_it walk_range (fun i σ H' => ∃ (tick : Int) (Dn : Addr) (ns : List Int) (es : List Ev) (y8 y9 y10 y11 y12 y13 : Option V), σ = [some (.ref r), some (.int (m : Int)), some (.int (size : Int)), some (.ref T), some (.int tick), some (.ref Dn), some (.ref F), some (.int (ks : Int)), y8, y9, y10, y11, y12, y13] ∧ Off r H H' ∧ Reel H' r (k + 2 + 15 * i) ∧ Dn ≠ r ∧ Dn ≠ F ∧
        H' Dn = some (.lst (ns.map V.int)) ∧ Lst evV H' F es ∧ RcOk m i es ∧ DownOk ns es ∧ (∀ x ∈ ns, 0 ≤ x ∧ x < (ks : Int)) ∧ ns.length ≤ i ∧ (∀ e ∈ es, e.t ≤ tick) ∧ -(10 ^ 16) ≤ tick ∧ tick ≤ 10 ^ 16 + i * 10 ^ 10)
      ⟨tick0, D0, [], [], _, _, _, _, _, _, rfl, o3.trans o35, R5, D0r, DF, o35 _ _ hD3 D0r, ⟨[], o35 _ _ hF3 Fr, Tups.nil⟩, ⟨Valid.nil, rfl, fun e h => by simp at h, fun e h => by simp at h⟩, DownOk.nil, fun x h => by simp at h, Nat.le_refl _, fun e h => by simp at h, ht0.1, by have := ht0.2; omega⟩ (fun _ _ _ _ _ => True.intro) (fun i x σ H6 H7 hi p y => ?_) (fun σ H6 p => ?_)
    · obtain ⟨tick, Dn, ns, es, y8, y9, y10, y11, y12, y13, rfl, o6, R6, Dr, DF6, hD6, hL6, rc, dn, hnk, hnl, hlast, tk1, tk2⟩ := p
      obtain ⟨rfl, rfl⟩ := y
      have hi' : i < size := hi
      -- free
      refine ⟨_, rfl, (ks : Int), rfl, by omega, by omega, ?_⟩
      rw [Int.toNat_natCast]
      refine fun Fe nFe => lc_it walk_range (fun j H' => Same H7 H' ∧ H' Fe = some (.lst (((nI j).filter fun x => !decide (x ∈ ns)).map V.int))) ⟨same_upd nFe, upd_same⟩ (fun _ _ _ _ => True.intro) (fun j x H8 H9 hj p y => ?_) (fun H8 p => ?_)
      · obtain ⟨rfl, rfl⟩ := y
        have hj' : j < ks := hj
        refine ⟨rfl, _, rfl, _, rfl, Dn, _, rfl, .inl (SqL.of (p.1 _ _ hD6)), rfl, flat_ints _, _, rfl, ?_⟩
        rw [inv_int]
        have en : nI (j + 1) = nI j ++ [(j : Int)] := by unfold nI; rw [List.range_succ, List.map_append]; rfl
        rw [en, List.filter_append]
        have e0 : (0 : Int) + (j : Int) = (j : Int) := Int.zero_add _
        rw [e0]
        refine ite2 (fun z => ?_) (fun z => ?_)
        · have z' : (!decide ((j : Int) ∈ ns)) = true := z
          refine ⟨_, rfl, _, p.2, ?_, Same.off p.1 nFe off_upd, ?_⟩
          · rw [List.length_map]
            have := List.length_filter_le (fun x => !decide (x ∈ ns)) (nI j)
            rw [nI_len] at this
            exact small1000 (by omega)
          · rw [upd_same, show List.filter (fun x => !decide (x ∈ ns)) [(j : Int)] = [(j : Int)] by rw [List.filter_cons, if_pos z']; rfl, List.map_append]
            show some (HO.lst (_ ++ [V.int (0 + (j : Int))])) = _
            rw [Int.zero_add]; rfl
        · have z' : ¬ (!decide ((j : Int) ∈ ns)) = true := z
          rw [show List.filter (fun x => !decide (x ∈ ns)) [(j : Int)] = [] by rw [List.filter_cons, if_neg z']; rfl, List.append_nil]
          exact p
      · obtain ⟨p1, hFe⟩ := p
        generalize hfr : (nI ks).filter (fun x => !decide (x ∈ ns)) = fr at *
        have frmem : ∀ x ∈ fr, (0 ≤ x ∧ x < (ks : Int)) ∧ ¬ x ∈ ns := fun x hx => by
          rw [← hfr] at hx
          obtain ⟨h1, h2⟩ := List.mem_filter.mp hx
          exact ⟨nI_mem.mp h1, fun h => by rw [decide_eq_true h] at h2; cases h2⟩
        have frnil : fr = [] → ns ≠ [] := fun h e => by
          have : (0 : Int) ∈ fr := by
            rw [← hfr]
            refine List.mem_filter.mpr ⟨nI_mem.mpr ⟨by decide, by omega⟩, ?_⟩
            rw [e]; rfl
          rw [h] at this
          simp at this
        have frlen : fr.length ≤ 10 := by
          have := List.length_filter_le (fun x => !decide (x ∈ ns)) (nI ks)
          rw [nI_len, hfr] at this
          omega
        have R8 := R6.same p1
        have o8 := o6.sameTrans p1
        have hD8 := p1 _ _ hD6
        have hL8 := hL6.same p1
        have Fer : Fe ≠ r := R6.new nFe
        have FeF : Fe ≠ F := by
          obtain ⟨asF, hF6, _⟩ := id hL6
          exact (ne_of_none hF6 nFe).symm
        have DFe : Dn ≠ Fe := ne_of_none hD6 nFe
        -- way
        refine ⟨fun σ' H' => ∃ (b : Bool) (y12 y13 : Option V), σ' = [some (.ref r), some (.int (m : Int)), some (.int (size : Int)), some (.ref T), some (.int tick), some (.ref Dn), some (.ref F), some (.int (ks : Int)), some (.int (0 + (i : Int))), y9, some (.ref Fe), some (.str (wayS b)), y12, y13] ∧ Off r H8 H' ∧ Reel H' r (k + 2 + 15 * i + 1) ∧ (b = true → fr ≠ []) ∧ (b = false → ns ≠ []), ?_, ?_⟩
        · refine ⟨_, rfl, Nat.zero_le _, fun E1 nE1 => ?_⟩
          have kE := same_upd (o := .lst []) nE1
          refine ⟨_, _, .lst (SqL.of (kE _ _ hFe)) (dpInts fr), .lst (SqL.of upd_same) .nil, shaped_ints _, shaped_nil, _, rfl, ?_⟩
          rw [eqv_nil, List.isEmpty_map]
          cases hf : fr with
          | nil =>
            refine iteT ⟨false, _, _, rfl, Off.of kE, (R8.same kE).mono (by omega), fun h => (by cases h), fun _ => frnil hf⟩
          | cons f0 frr =>
            refine iteF ⟨_, rfl, Nat.zero_le _, fun E2 nE2 => ?_⟩
            have kE2 := same_upd (o := .lst []) nE2
            have kk := kE.trans kE2
            refine ⟨_, _, .lst (SqL.of (kk _ _ hD8)) (dpInts ns), .lst (SqL.of upd_same) .nil, shaped_ints _, shaped_nil, !ns.isEmpty, congrArg V.bl (by rw [eqv_nil, List.isEmpty_map]), ?_⟩
            cases hn : ns with
            | nil => exact iteF (iteF ⟨true, _, _, rfl, Off.of kk, (R8.same kk).mono (by omega), fun _ => (by intro z; cases z), fun h => (by cases h)⟩)
            | cons n0 nr =>
              refine iteT ⟨_, rfl, r, 4, k + 2 + 15 * i, rfl, by decide, by decide, by show _ < 1000000000; omega, R8.same kk, fun d3 H9 d30 d31 R9 o9 => ⟨rfl, _, rfl, ite2 (fun z => ?_) (fun z => ?_)⟩⟩
              · exact ⟨false, _, _, rfl, (Off.of kk).trans o9, R9, fun h => (by cases h), fun _ => (by intro z; cases z)⟩
              · exact ⟨true, _, _, rfl, (Off.of kk).trans o9, R9, fun _ => (by intro z; cases z), fun h => (by cases h)⟩
        · rintro σ' H9 ⟨b, y12, y13, rfl, o9, R9, hbt, hbf⟩
          have hD9 := o9 _ _ hD8 Dr
          have hFe9 := o9 _ _ hFe Fer
          have hL9 := R8.lst hL8 Fr o9
          -- some
          refine ⟨_, rfl, _, rfl, (by show 2 ≤ sizeLine; decide), fun W3 nW3 => ?_⟩
          have k10 := same_upd (o := .lst [.ref Dn, .ref Fe]) nW3
          refine ⟨_, rfl, rfl, .inr ⟨_, rfl, ?_⟩⟩
          rw [wayS_down]
          obtain ⟨Ch, ch, hat, hCh, hne, hchk, hchl, Chr⟩ : ∃ (Ch : Addr) (ch : List Int), atI [V.ref Dn, V.ref Fe] (if b = true then 1 else 0) = some (.ref Ch) ∧ H9 Ch = some (.lst (ch.map V.int)) ∧ ch ≠ [] ∧ (∀ x ∈ ch, (0 ≤ x ∧ x < (ks : Int)) ∧ (b = true → ¬ x ∈ ns) ∧ (b = false → x ∈ ns)) ∧ ch.length ≤ 1000 ∧ Ch ≠ r := by
            cases b with
            | true => exact ⟨Fe, fr, rfl, hFe9, hbt rfl, fun x hx => ⟨(frmem x hx).1, fun _ => (frmem x hx).2, fun h => by cases h⟩, by omega, Fer⟩
            | false => exact ⟨Dn, ns, rfl, hD9, hbf rfl, fun x hx => ⟨hnk x hx, fun h => (by cases h), fun _ => hx⟩, by omega, Dr⟩
          have hpos : 0 < ch.length := by
            cases ch with
            | nil => exact absurd rfl hne
            | cons _ _ => exact Nat.succ_pos _
          refine ⟨W3, _, _, _, rfl, rfl, SqL.of upd_same, hat, ?_⟩
          have hCh10 := k10 _ _ hCh
          refine ⟨_, rfl, _, rfl, _, rfl, Ch, _, rfl, .inl (SqL.of hCh10), r, _, k + 2 + 15 * i + 1, rfl, by rw [List.length_map]; omega, by rw [List.length_map]; omega, by show _ < 1000000000; omega, R9.same k10, fun d4 H11 d40 d41 R11 o11 => ?_⟩
          rw [List.length_map] at d41
          obtain ⟨key, akey, mkey⟩ := getI (ns := ch) d40 d41
          obtain ⟨hk1, hk2, hk3⟩ := hchk key (List.mem_of_getElem? mkey)
          refine ⟨Ch, _, d4, _, rfl, rfl, SqL.of (o11 _ _ hCh10 Chr), akey, ?_⟩
          have o911 := (Off.of k10).trans o11
          have hT11 : H11 T = some (.lst (ts.map V.int)) := o911 _ _ (o9 _ _ (o8 _ _ hT Tr) Tr) Tr
          refine ⟨_, rfl, _, rfl, _, rfl, r, T, k + 2 + 15 * i + 2, ts, rfl, R11, by show _ < 1000000000; omega, hT11, Tr, l0, l1, hts, fun H12 dt o12 R12 dt0 dt1 => ⟨_, _, rfl, rfl, ?_⟩⟩
          have o912 := o911.trans o12
          have hL12 := R9.lst hL9 Fr o912
          have hD12 := o912 _ _ hD9 Dr
          have oH12 := (o8.trans o9).trans o912
          obtain ⟨asF, hF12, hTF⟩ := id hL12
          have hal := hTF.1
          have hrl := rc.len
          -- found.append
          refine ⟨_, rfl, .inl ⟨rfl, _, SqL.of hF12⟩, _, rfl, _, rfl, _, rfl, (by show 3 ≤ sizeLine; decide), fun p np => ?_⟩
          have kp := same_upd (o := .tup [.int (tick + dt), .int key, .str (wayS b)]) np
          have hF13 := kp _ _ hF12
          have pF : p ≠ F := (ne_of_none hF12 np).symm
          refine ⟨F, _, .ref p, rfl, rfl, hF13, by rw [List.length_map, hal]; exact small1000 (by omega), ?_⟩
          have hD14 : upd (upd H12 p (.tup [.int (tick + dt), .int key, .str (wayS b)])) F (.lst (asF.map V.ref ++ [.ref p])) Dn = some (.lst (ns.map V.int)) := by rw [upd_ne DF6]; exact kp _ _ hD12
          have R14 := (R12.same kp).upd (o := .lst (asF.map V.ref ++ [.ref p])) Fr
          have o14 := (oH12.sameTrans kp).new (o := .lst (asF.map V.ref ++ [.ref p])) nFH
          have hL14 : Lst evV (upd (upd H12 p (.tup [.int (tick + dt), .int key, .str (wayS b)])) F (.lst (asF.map V.ref ++ [.ref p]))) F (es ++ [⟨tick + dt, key, b⟩]) :=
            ⟨asF ++ [p], by rw [upd_same, List.map_append]; rfl, Tups.snoc ((hTF.same kp).off hF13 off_upd) (by rw [upd_ne pF]; exact upd_same)⟩
          refine (fun (G : ∀ H14 : Hp, H14 Dn = some (.lst (ns.map V.int)) → Reel H14 r (k + 2 + 15 * i + 12) → Rm.Off r H H14 → Lst evV H14 F (es ++ [⟨tick + dt, key, b⟩]) → _) => G _ hD14 (R14.mono (by omega)) o14 hL14) (fun H14 hD14 R14 o14 hL14 => ?_)
          have hheld : heldB es key = !b := by
            cases b with
            | true =>
              cases h : heldB es key with
              | false => rfl
              | true => exact absurd ((dn.mem key).mpr h) (hk2 rfl)
            | false => exact (dn.mem key).mp (hk3 rfl)
          have hv : Valid (es ++ [⟨tick + dt, key, b⟩]) := rc.valid.snoc hk1.1 hheld fun e he => by have := hlast e he; show e.t ≤ tick + dt; omega
          -- down
          refine ⟨_, rfl, Dn, rfl, ⟨_, SqL.of hD14⟩, fun M nM => lc_it (walk_list (xs := ns.map V.int)) (fun j H' => Same H14 H' ∧ H' M = some (.lst (((ns.take j).filter fun x => !decide (x = key)).map V.int))) ⟨same_upd nM, upd_same⟩ (fun j H' _ p => SqL.of (p.1 _ _ hD14)) (fun j x H15 H16 hj p y => ?_) (fun H15 p => ?_)⟩
          · obtain ⟨rfl, e2⟩ := y
            have hj' : j < ns.length := by rw [List.length_map] at hj; exact hj
            have ex : V.int ns[j] = x := Option.some.inj ((get_map_int (List.getElem?_eq_getElem hj')).symm.trans e2)
            subst ex
            refine ⟨rfl, _, rfl, _, rfl, rfl, _, rfl, ?_⟩
            rw [List.take_add_one, List.getElem?_eq_getElem hj', List.filter_append]
            have ed : (!decide (V.int ns[j] = V.int key)) = !decide (ns[j] = key) := by
              by_cases z : ns[j] = key
              · rw [z]; simp
              · rw [decide_eq_false z, decide_eq_false (fun e => z (V.int.inj e))]
            rw [ed]
            refine ite2 (fun z => ?_) (fun z => ?_)
            · refine ⟨_, rfl, _, p.2, ?_, Same.off p.1 nM off_upd, ?_⟩
              · rw [List.length_map]
                have := List.length_filter_le (fun x => !decide (x = key)) (ns.take j)
                rw [List.length_take] at this
                exact small1000 (by omega)
              · rw [upd_same, show List.filter (fun x => !decide (x = key)) (some ns[j]).toList = [ns[j]] by show List.filter _ [ns[j]] = _; rw [List.filter_cons, if_pos z]; rfl, List.map_append]; rfl
            · rw [show List.filter (fun x => !decide (x = key)) (some ns[j]).toList = [] by show List.filter _ [ns[j]] = _; rw [List.filter_cons, if_neg z]; rfl, List.append_nil]
              exact p
          · obtain ⟨p1', hM⟩ := p
            rw [List.length_map, List.take_length] at hM
            generalize hfl : ns.filter (fun x => !decide (x = key)) = kept at *
            have hkl : kept.length ≤ ns.length := by rw [← hfl]; exact List.length_filter_le _ _
            refine ⟨_, rfl, (by show 1 ≤ sizeLine; decide), fun W4 nW4 => ?_⟩
            have k16 := same_upd (o := .lst [.int key]) nW4
            refine ⟨_, rfl, rfl, .inr ⟨_, rfl, ?_⟩⟩
            rw [wayS_down]
            have hb01 : (0 : Int) ≤ (if b = true then 1 else 0) ∧ (if b = true then (1 : Int) else 0) ≤ 1 := by cases b <;> decide
            refine ⟨W4, _, _, rfl, rfl, upd_same, by omega, by omega, by show 1 * (if b = true then (1 : Int) else 0).toNat ≤ sizeLine; rw [sizeLine_eq]; omega, fun W5 nW5 => ?_⟩
            have k17 := same_upd (o := .lst (List.replicate (if b = true then (1 : Int) else 0).toNat [V.int key]).flatten) nW5
            refine ⟨M, W5, _, _, rfl, rfl, (k16.trans k17) _ _ hM, upd_same, ?_, fun D2 nD2 => ?_⟩
            · rw [List.length_map]
              cases b
              · show _ + 0 ≤ sizeLine; rw [sizeLine_eq]; omega
              · show _ + 1 ≤ sizeLine; rw [sizeLine_eq]; omega
            have ends : ∃ ns2 : List Int, kept.map V.int ++ (List.replicate (if b = true then (1 : Int) else 0).toNat [V.int key]).flatten = ns2.map V.int ∧ DownOk ns2 (es ++ [⟨tick + dt, key, b⟩]) ∧ (∀ x ∈ ns2, 0 ≤ x ∧ x < (ks : Int)) ∧ ns2.length ≤ i + 1 := by
              have km : ∀ x, x ∈ kept ↔ x ≠ key ∧ x ∈ ns := fun x => by
                rw [← hfl, List.mem_filter]
                constructor
                · rintro ⟨h1, h2⟩
                  exact ⟨fun e => (by rw [decide_eq_true e] at h2; cases h2), h1⟩
                · rintro ⟨h1, h2⟩
                  exact ⟨h2, by rw [decide_eq_false h1]; rfl⟩
              have knd : kept.Nodup := by rw [← hfl]; exact dn.nd.filter _
              cases b with
              | true =>
                refine ⟨kept ++ [key], by rw [List.map_append]; rfl, ⟨nd_snoc knd (fun h => ((km key).mp h).1 rfl), fun x => ?_⟩, fun x hx => ?_, by rw [List.length_append, List.length_singleton]; omega⟩
                · rw [heldB_snoc]
                  unfold after
                  rw [List.mem_append, List.mem_singleton, km]
                  by_cases z : x = key
                  · subst z; simp
                  · rw [if_neg (show ¬ x = (⟨tick + dt, key, true⟩ : Ev).k from z), ← dn.mem x]; simp [z]
                · rcases List.mem_append.mp hx with h | h
                  · exact hnk x ((km x).mp h).2
                  · rw [List.mem_singleton.mp h]; exact hk1
              | false =>
                refine ⟨kept, List.append_nil _, ⟨knd, fun x => ?_⟩, fun x hx => hnk x ((km x).mp hx).2, by omega⟩
                rw [heldB_snoc]
                unfold after
                rw [km]
                by_cases z : x = key
                · subst z; simp
                · rw [if_neg (show ¬ x = (⟨tick + dt, key, false⟩ : Ev).k from z), ← dn.mem x]; simp [z]
            obtain ⟨ns2, e2, dn2, hnk2, hnl2⟩ := ends
            rw [e2]
            have k18 := same_upd (o := .lst (ns2.map V.int)) nD2
            have sF := ((p1'.trans k16).trans k17).trans k18
            have hL18 := hL14.same sF
            have R18 := R14.same sF
            have D2r : D2 ≠ r := (R14.same ((p1'.trans k16).trans k17)).new nD2
            have D2F : D2 ≠ F := by
              obtain ⟨asG, hG, _⟩ := id (hL14.same ((p1'.trans k16).trans k17))
              exact (ne_of_none hG nD2).symm
            have e10 : ((i + 1 : Nat) : Int) * 10 ^ 10 = (i : Int) * 10 ^ 10 + 10 ^ 10 := by rw [Int.natCast_add, Int.add_mul]; rfl
            refine ⟨tick + dt, D2, ns2, es ++ [⟨tick + dt, key, b⟩], _, _, _, _, _, _, rfl, o14.sameTrans sF, R18.mono (by omega), D2r, D2F, upd_same, hL18, ⟨hv, by rw [List.length_append, hrl]; rfl, fun e he => ?_, fun e he => ?_⟩, dn2, hnk2, hnl2, fun e he => ?_, by omega, by omega⟩
            · rcases List.mem_append.mp he with h | h
              · exact rc.key e h
              · rw [List.mem_singleton.mp h]
                show 0 ≤ key ∧ key < (m : Int)
                omega
            · rcases List.mem_append.mp he with h | h
              · exact rc.tick e h
              · rw [List.mem_singleton.mp h]
                show -(10 ^ 20) < tick + dt ∧ tick + dt < 10 ^ 20
                omega
            · rcases List.mem_append.mp he with h | h
              · have := hlast e h; omega
              · rw [List.mem_singleton.mp h]; exact Int.le_refl _
    · obtain ⟨tick, Dn, ns, es, y8, y9, y10, y11, y12, y13, rfl, o6, R6, Dr, DF6, hD6, hL6, rc, _⟩ := p
      exact ⟨_, rfl, q H6 F es o6 nFH (R6.mono (by omega)) hL6 rc⟩
end
end K24

set_option Elab.async false
set_option linter.all false
set_option maxRecDepth 100000
set_option maxHeartbeats 8000000
namespace K24
open PySem PySem.Spec PyProof.Rows L2 Gd Rm La Cb
section
variable {P : Program} {w : World} {K : PySem.W.Frag} {mg : Str → Option Value} {base : Heap}
def spLCut : Sp := fun vs H Q _ => ∃ (d cc : Addr) (cbs : List Cmb) (m : Int) (ds : List Ev), vs = [.ref cc, .ref d] ∧ Lst evV H d ds ∧ ds ≠ [] ∧ ds.length ≤ 400 ∧ Cmbs H cc cbs ∧ CbsOk m cbs ∧
  ∀ H' p x, Same H H' → H p = none → H' p = some (.tup [.int (fp cbs ds : Nat), x]) → Q (.ref p) H'
theorem ok__law_cut (bt : Bt mg) (a : At K mg "_law_cut" s__law_cut ["_law_combos_here", "_law_downs"]) : Cl P w K mg base 1 "_law_cut" spLCut := by
  refine clG a sc__law_cut (fun vs H Q E h => ?_) (fun f cdv A outer s H vs Q hg hr h => ?_)
  · obtain ⟨d, cc, cbs, m, ds, rfl, _⟩ := h
    rfl
  · obtain ⟨d, cc, cbs, m, ds, rfl, ⟨as, hd, hT⟩, hne, hdl, ⟨vs, hc, hC⟩, ok, q⟩ := h
    have few := ok.few
    have hvl := hC.1
    have hal := hT.1
    have hpos : 0 < ds.length := by
      cases ds with
      | nil => exact absurd rfl hne
      | cons _ _ => exact Nat.succ_pos _
    refine ⟨_, (pss_cons (ps_for PassesOwn.never rfl (pi_list (pe_lst (pa_cons pe_int (pa_cons pe_int pa_nil)))) (pg_name (i := 2) sc__law_cut.nd rfl (Or.inl rfl)) (pss_cons (ps_set (i := 3) sc__law_cut.nd rfl (Or.inl rfl) (pe_callTy call_tuple_of (by rfl) bt.m_tuple (by decide +kernel) (pa_cons (pe_callB cr_sortedI (by rfl) bt.m_sorted (by decide +kernel) (pa_cons (pe_lc (own := [("_law_tick", 6), ("_law_key", 7), ("_law_way", 8)]) (g := (gTup K 3 (gCons (gName 6) (gCons (gName 7) (gCons (gName 8) gNil))))) (by rfl) sc__law_cut.nd (pi_list (pe_slice sl_list (pv 1) po_none (po_some (pv 2)))) (blkOk_by (N := n__law_cut) (sc := defScope s__law_cut) (by decide +kernel)) (fun _ _ _ _ _ => (pg_tup rfl (pgs_cons (pg_name (i := 6) sc__law_cut.nd rfl (Or.inl rfl)) (pgs_cons (pg_name (i := 7) sc__law_cut.nd rfl (Or.inl rfl)) (pgs_cons (pg_name (i := 8) sc__law_cut.nd rfl (Or.inl rfl)) pgs_nil))))) (fun _ _ _ _ _ => pts_nil) (fun _ _ _ _ _ => (pv 7))) pa_nil)) pa_nil)))
      (pss_one (ps_for PassesOwn.never rfl (pi_enum (by rfl) bt.m_enumerate (pa_cons (pv 0) pa_nil)) (pg_tup rfl (pgs_cons (pg_name (i := 4) sc__law_cut.nd rfl (Or.inl rfl)) (pgs_cons (pg_name (i := 5) sc__law_cut.nd rfl (Or.inl rfl)) pgs_nil))) (pss_one (ps_if (PW.pt (pw_and (pt_cmpR op_eq (pe_callB call_len_seq (by rfl) bt.m_len (by decide +kernel) (pa_cons (pe_ix ix_tup (pv 5) pe_int (fun _ _ => rfl)) pa_nil)) (pv 2) (nomark _)) (pw_and (pt_cmpR (op_eqD hr.units) (pe_ix ix_tup (pv 5) pe_int (fun _ _ => rfl)) (pv 3) (nomark _)) (pw_and1 (pt_cmpR op_lt (pe_op op_sub (pe_ix ix_tup (pe_ix ix_list (pv 1) (pe_op op_sub (pv 2) pe_int) (fun _ _ => rfl)) pe_int (fun _ _ => rfl)) (pe_ix ix_tup (pe_ix ix_list (pv 1) pe_int (fun _ _ => rfl)) pe_int (fun _ _ => rfl))) (pe_ix ix_tup (pv 5) pe_int (fun _ _ => rfl)) (nomark _)))))) (pss_one (ps_ret (pe_tup (pa_cons (pv 2) (pa_cons (pv 4) pa_nil))))) pss_nil))))))
      (pss_one (ps_ret (pe_tup (pa_cons pe_int (pa_cons pe_non pa_nil)))))), ?_⟩
    refine ⟨(by show 2 ≤ sizeLine; decide), fun Sz nSz => ⟨Sz, rfl, ⟨_, SqL.of upd_same⟩, ?_⟩⟩
    have sS := same_upd (o := .lst [.int 3, .int 2]) nSz
    refine for_it (walk_list (xs := [.int 3, .int 2])) (fun j σ H' => ∃ (y2 y3 y4 y5 y6 y7 y8 : Option V), σ = [some (.ref cc), some (.ref d), y2, y3, y4, y5, y6, y7, y8] ∧ Same H H' ∧ H' Sz = some (.lst [.int 3, .int 2]) ∧ (0 < j → ∀ cb ∈ cbs, ¬ Match cb 3 ds) ∧ (1 < j → ∀ cb ∈ cbs, ¬ Match cb 2 ds))
      ⟨_, _, _, _, _, _, _, rfl, sS, upd_same, fun h => by omega, fun h => by omega⟩ (fun _ _ _ _ p => by obtain ⟨_, _, _, _, _, _, _, _, _, h, _⟩ := p; exact SqL.of h) (fun j x σ H1 H2 hj p y => ?_) (fun σ H1 p => ?_)
    · obtain ⟨y2, y3, y4, y5, y6, y7, y8, rfl, s1, hSz, n3, n2⟩ := p
      obtain ⟨rfl, e2⟩ := y
      obtain ⟨sz, rfl, hsz, hlast⟩ : ∃ sz : Nat, x = .int (sz : Nat) ∧ (sz = 2 ∨ sz = 3) ∧ (∀ cb ∈ cbs, ∀ _ : Match cb sz ds, fp cbs ds = sz) ∧ ((∀ cb ∈ cbs, ¬ Match cb sz ds) → (0 < j + 1 → ∀ cb ∈ cbs, ¬ Match cb 3 ds) ∧ (1 < j + 1 → ∀ cb ∈ cbs, ¬ Match cb 2 ds)) := by
        have hj2 : j < 2 := hj
        match j, hj2, e2, n3, n2 with
        | 0, _, e2, _, _ => exact ⟨3, (Option.some.inj e2).symm, .inr rfl, fun cb h m => fp_three h m, fun h => ⟨fun _ => h, fun q => by omega⟩⟩
        | 1, _, e2, n3, _ => exact ⟨2, (Option.some.inj e2).symm, .inl rfl, fun cb h m => fp_two (n3 (by decide)) h m, fun h => ⟨fun _ => n3 (by decide), fun _ => h⟩⟩
      obtain ⟨hfp, hnext⟩ := hlast
      have hd1 := s1 _ _ hd
      refine ⟨_, rfl, _, rfl, _, rfl, d, _, rfl, SqL.of hd1, fun Sl nSl => ⟨Sl, rfl, ⟨_, SqL.of upd_same⟩, fun M nM => ?_⟩⟩
      rw [cutTake, ← List.map_take] at *
      have kS := same_upd (o := .lst ((as.take sz).map V.ref)) nSl
      have hSl := upd_same (H := H2) (a := Sl) (o := .lst ((as.take sz).map V.ref))
      have hTs := (hT.same (s1.trans kS)).take sz
      refine lc_it (walk_list (xs := (as.take sz).map V.ref)) (fun i H' => Same (upd H2 Sl (.lst ((as.take sz).map V.ref))) H' ∧ H' M = some (.lst ((((ds.take sz).take i).map Ev.k).map V.int))) ⟨same_upd nM, upd_same⟩ (fun i H' _ p => SqL.of (p.1 _ _ hSl)) (fun i v H3 H4 hi p y => ?_) (fun H3 p => ?_)
      · obtain ⟨rfl, e3⟩ := y
        have hi' : i < (ds.take sz).length := by rw [List.length_map, hTs.1] at hi; exact hi
        obtain ⟨b, hb, hbt⟩ := hTs.at_ hi'
        have e3' : v = .ref b := Option.some.inj (e3.symm.trans (get_map_ref hb))
        subst e3'
        refine ⟨b, _, rfl, SqT.of (p.1 _ _ hbt), rfl, _, _, rfl, _, _, rfl, _, _, rfl, rfl, rfl, _, rfl, _, p.2, ?_, Same.off p.1 nM off_upd, ?_⟩
        · rw [List.length_map, List.length_map, List.length_take, List.length_take]; exact small1000 (by omega)
        · rw [upd_same, List.take_add_one, List.getElem?_eq_getElem hi', List.map_append, List.map_append]; rfl
      · rw [List.length_map, hTs.1, List.take_length] at p
        refine ⟨M, _, rfl, SqL.of p.2, fun ns' pk hpk hok npk => ?_⟩
        have kP := same_upd (o := .lst (ns'.map V.int)) npk
        have s3 := ((s1.trans kS).trans p.1).trans kP
        refine ⟨pk, _, rfl, .inl ⟨SqL.of upd_same, fun kt nkt => ?_⟩⟩
        have kQ := same_upd (o := .tup (ns'.map V.int)) nkt
        have hSz3 := (((kS.trans p.1).trans kP).trans kQ) _ _ hSz
        have hkeys := upd_same (H := upd H3 pk (.lst (ns'.map V.int))) (a := kt) (o := .tup (ns'.map V.int))
        refine (fun (G : ∀ H5 : Hp, Same H H5 → H5 Sz = some (.lst [.int 3, .int 2]) → H5 kt = some (.tup (ns'.map V.int)) → _) => G _ (s3.trans kQ) hSz3 hkeys) (fun H5 s5 hSz5 hkeys => ?_)
        refine ⟨_, rfl, cc, _, rfl, SqL.of (s5 _ _ hc), for_it (walk_enum (xs := vs)) (fun i σ H' => ∃ (y4 y5 y6 y7 y8 : Option V), σ = [some (.ref cc), some (.ref d), some (.int (sz : Nat)), some (.ref kt), y4, y5, y6, y7, y8] ∧ Same H5 H' ∧ ∀ (m : Nat) (cb : Cmb), m < i → cbs[m]? = some cb → ¬ Match cb sz ds)
          ⟨_, _, _, _, _, rfl, Same.refl _, fun m cb h => by omega⟩ (fun _ _ _ _ p => by obtain ⟨_, _, _, _, _, _, s, _⟩ := p; exact SqL.of ((s5.trans s) _ _ hc)) (fun i v σ H6 H7 hi p y => ?_) (fun σ H6 p => ?_)⟩
        · obtain ⟨y4, y5, y6, y7, y8, rfl, s6, hno⟩ := p
          obtain ⟨T, u, v, rfl, nT, rfl, e1, e3⟩ := y
          have hi' : i < cbs.length := by omega
          obtain ⟨ad, k, hv, ha, hk⟩ := Cmbs.at_ hC hi'
          have e1' : u = .int (i : Nat) := (Option.some.inj e1).symm
          subst e1'
          have e2' : v = .ref ad := Option.some.inj ((show vs[i]? = some v from e3).symm.trans hv)
          subst e2'
          have sT := same_upd (o := .tup [.int (i : Nat), .ref ad]) nT
          have s7 := s6.trans sT
          have s57 := s5.trans s7
          have hcb : cbs[i]? = some cbs[i] := List.getElem?_eq_getElem hi'
          have hmem : cbs[i] ∈ cbs := List.getElem_mem hi'
          have ok1 := ok.all cbs[i] hmem
          generalize cbs[i] = cb at *
          have ha7 := s57 _ _ ha
          have hk7 := s57 _ _ hk
          have step : ∀ {H' : Hp}, Same H5 H' → ¬ Match cb sz ds → ∃ (y4 y5 y6 y7 y8' : Option V), [some (V.ref cc), some (V.ref d), some (V.int (sz : Nat)), some (V.ref kt), some (V.int (i : Nat)), some (V.ref ad), y6, y7, y8] = [some (.ref cc), some (.ref d), some (.int (sz : Nat)), some (.ref kt), y4, y5, y6, y7, y8'] ∧ Same H5 H' ∧ ∀ (m : Nat) (cb : Cmb), m < i + 1 → cbs[m]? = some cb → ¬ Match cb sz ds := fun {H'} s nm =>
            ⟨_, _, y6, y7, y8, rfl, s, fun m cb' hm hc' => by
              by_cases z : m = i
              · subst z
                rw [hcb] at hc'
                cases hc'
                exact nm
              · exact hno m cb' (by omega) hc'⟩
          refine ⟨T, _, rfl, SqT.of upd_same, rfl, _, _, rfl, _, _, rfl, rfl, ?_⟩
          refine ⟨_, rfl, ad, _, _, _, rfl, rfl, SqT.of ha7, atI_nat (j := 0) rfl, k, _, rfl, .inr (SqT.of hk7), _, rfl, rfl, _, rfl, ?_⟩
          rw [List.length_map]
          refine ite2 (fun z1 => ?_) (fun z1 => iteF ?_)
          · have z1' : cb.ks.length = sz := by
              have := V.int.inj (of_decide_eq_true z1)
              omega
            refine ⟨_, rfl, ad, _, _, _, rfl, rfl, SqT.of ha7, atI_nat (j := 0) rfl, _, rfl, ksD cb.ks, ksD ns', .tup (SqT.of hk7) (dpInts _), .tup (SqT.of (s7 _ _ hkeys)) (dpInts _), shaped_ks _, shaped_ks _, _, rfl, ?_⟩
            rw [eqv_ks]
            have s8 := s7
            refine ite2 (fun z2 => ?_) (fun z2 => iteF ?_)
            · have z2' : cb.ks = ns' := of_decide_eq_true z2
              have hperm : cb.ks.Perm ((ds.take sz).map Ev.k) := by rw [z2']; exact hpk
              have hlen : sz ≤ ds.length := by
                have := hperm.length_eq
                rw [z1', List.length_map, List.length_take] at this
                omega
              have s58 := s5.trans s8
              obtain ⟨bl, hbl, hblt⟩ := hT.at_ (i := sz - 1) (by omega)
              obtain ⟨b0, hb0, hb0t⟩ := hT.at_ (i := 0) hpos
              have eidx : ((sz : Nat) : Int) - 1 = ((sz - 1 : Nat) : Int) := by omega
              refine ⟨_, rfl, _, rfl, _, _, rfl, rfl, d, _, _, _, rfl, rfl, SqL.of (s58 _ _ hd), by rw [eidx]; exact atI_nat (get_map_ref hbl), bl, _, _, _, rfl, rfl, SqT.of (s58 _ _ hblt), atI_nat (j := 0) rfl, ?_⟩
              refine ⟨_, rfl, d, _, _, _, rfl, rfl, SqL.of (s58 _ _ hd), atI_nat (j := 0) (get_map_ref hb0), b0, _, _, _, rfl, rfl, SqT.of (s58 _ _ hb0t), atI_nat (j := 0) rfl, _, _, rfl, rfl, ?_⟩
              refine ⟨_, rfl, ad, _, _, _, rfl, rfl, SqT.of (sT _ _ (s6 _ _ (s5 _ _ ha))), atI_nat (j := 1) rfl, _, _, rfl, rfl, _, rfl, ite2 (fun z3 => ?_) (fun z3 => ?_)⟩
              · have z3' : ds[sz - 1].t < ds[0].t + cb.t := by have := of_decide_eq_true z3; omega
                have mt : Match cb sz ds := ⟨z1', hperm, ds[0], ds[sz - 1], List.getElem?_eq_getElem hpos, List.getElem?_eq_getElem (by omega), z3'⟩
                refine ⟨_, rfl, _, rfl, (by show 2 ≤ sizeLine; decide), fun p np => q _ p (.int (i : Nat)) (s58.trans (same_upd np)) (s58.free np) ?_⟩
                rw [upd_same, hfp cb hmem mt]
              · have z3' : ¬ ds[sz - 1].t < ds[0].t + cb.t := fun q => z3 (decide_eq_true (by omega))
                obtain ⟨w4, w5, w6, w7, w8, e, ss, hh⟩ := step s8 fun ⟨_, _, a, b, ha, hb, lt⟩ => by
                  rw [List.getElem?_eq_getElem hpos] at ha
                  rw [List.getElem?_eq_getElem (by omega)] at hb
                  have e1 := Option.some.inj ha
                  have e2 := Option.some.inj hb
                  rw [← e1, ← e2] at lt
                  exact z3' lt
                exact ⟨_, _, _, _, _, rfl, ss, hh⟩
            · have z2' : ¬ cb.ks = ns' := fun q => z2 (decide_eq_true q)
              obtain ⟨w4, w5, w6, w7, w8, e, ss, hh⟩ := step s8 fun ⟨_, hp, _⟩ => z2' (List.Perm.eq_of_pairwise (fun x y _ _ h1 h2 => Int.le_antisymm h1 h2) (ok1.asc.imp fun h => by omega) hok (hp.trans hpk.symm))
              exact ⟨_, _, _, _, _, rfl, ss, hh⟩
          · have z1' : ¬ cb.ks.length = sz := fun q => z1 (decide_eq_true (congrArg V.int (by omega)))
            obtain ⟨w4, w5, w6, w7, w8, e, ss, hh⟩ := step s7 fun m => z1' m.1
            exact ⟨_, _, _, _, _, rfl, ss, hh⟩
        · obtain ⟨y4, y5, y6, y7, y8, rfl, s6, hno⟩ := p
          have nm : ∀ cb ∈ cbs, ¬ Match cb sz ds := fun cb hm => by
            obtain ⟨i, hi⟩ := List.getElem?_of_mem hm
            have := (List.getElem?_eq_some_iff.mp hi).1
            exact hno i cb (by omega) hi
          obtain ⟨g3, g2⟩ := hnext nm
          exact ⟨_, _, _, _, _, _, _, rfl, s5.trans s6, s6 _ _ hSz5, g3, g2⟩
    · obtain ⟨y2, y3, y4, y5, y6, y7, y8, rfl, s1, hSz, n3, n2⟩ := p
      refine ⟨(by show 2 ≤ sizeLine; decide), fun p np => q _ p .non (s1.trans (same_upd np)) (s1.free np) ?_⟩
      rw [upd_same, fp_one (n3 (by decide)) (n2 (by decide))]; rfl
end
end K24

set_option Elab.async false
set_option linter.all false
set_option maxRecDepth 100000
set_option maxHeartbeats 8000000
namespace K24
open PySem PySem.Spec PyProof.Rows L2 Gd Rm La Cb
theorem lay_ev : ∀ es : List Ev, PyData.canLayAll0 (es.map evD) = true ∧ PyData.depthAll (es.map evD) ≤ 1
  | [] => ⟨rfl, Nat.zero_le _⟩
  | e :: es => by
    obtain ⟨a, b⟩ := lay_ev es
    refine ⟨?_, ?_⟩
    · have h : PyData.canLay0 (.str (wayS e.d)) = true := by cases e.d <;> decide +kernel
      show ((true && (true && (PyData.canLay0 (.str (wayS e.d)) && true))) && PyData.canLayAll0 (es.map evD)) = true
      rw [a, h]
      rfl
    · show max (PyData.depth (evD e)) (PyData.depthAll (es.map evD)) ≤ 1
      have : PyData.depth (evD e) = 1 := rfl
      omega
theorem shaped_rec (es : List Ev) : SeqAt.shaped (recD es) = true := by
  obtain ⟨a, b⟩ := lay_ev es
  show (PyData.canLayAll0 (es.map evD) && decide (PyData.depthAll (es.map evD) + 1 ≤ 64)) = true
  rw [a, decide_eq_true (by omega)]
  rfl
theorem rgV_seg (a b : Nat) : rgV (a : Int) (b : Int) = (seg a b).map V.int := by
  refine List.ext_getElem? fun i => ?_
  unfold rgV
  rcases Nat.lt_or_ge i (b - a) with q | q
  · rw [List.getElem?_map, List.getElem?_map, seg_at q, List.getElem?_range (by omega)]
    show some (V.int ((a : Int) + (i : Nat))) = some (V.int ((a + i : Nat) : Int))
    rw [Int.natCast_add]
  · rw [List.getElem?_eq_none (by rw [List.length_map, List.length_range]; omega), List.getElem?_eq_none (by rw [List.length_map, seg_len]; omega)]
theorem prt_snoc {es : List Ev} {s n : Nat} (h : s + n < es.length) : prt es s (s + n) ++ [es[s + n]] = prt es s (s + (n + 1)) := by
  unfold prt
  rw [show s + n - s = n by omega, show s + (n + 1) - s = n + 1 by omega, List.take_add_one, List.getElem?_drop, List.getElem?_eq_getElem h]
  rfl
theorem iteT' {b : Bool} {p q : Prop} (hb : b = true) (h : p) : if b = true then p else q := by rw [if_pos hb]; exact h
section
variable {P : Program} {w : World} {K : PySem.W.Frag} {mg : Str → Option Value} {base : Heap}
def spLDue : Sp := fun vs H Q _ => ∃ (cc c : Addr) (cbs : List Cmb) (m : Int) (es : List Ev), vs = [.ref cc, .ref c] ∧ Lst evV H c es ∧ es.length ≤ 400 ∧ Cmbs H cc cbs ∧ CbsOk m cbs ∧
  ∀ H' p r as, Same H H' → H p = none → LL H H' p r as → Due es cbs 0 r → r.length ≤ es.length → Q (.ref p) H'
theorem ok__law_due (bt : Bt mg) (a : At K mg "_law_due" s__law_due ["_law_combos_here", "_law_record"]) (c__law_cut : Cl P w K mg base 1 "_law_cut" spLCut) : Cl P w K mg base 2 "_law_due" spLDue := by
  refine clG a sc__law_due (fun vs H Q E h => ?_) (fun f cdv A outer s H vs Q hg hr h => ?_)
  · obtain ⟨cc, c, cbs, m, es, rfl, _⟩ := h
    rfl
  · obtain ⟨cc, c, cbs, m, es, rfl, hL, hl4, hC, ok, q⟩ := h
    refine ⟨_, (pss_cons (ps_par (i := 2) (j := 3) rfl sc__law_due.nd rfl rfl (by decide) rfl rfl (pa_cons (pe_lst pa_nil) (pa_cons pe_int pa_nil)) (by rfl))
      (pss_cons (ps_while PassesOwn.never (pt_cmpR op_lt (pv 3) (pe_callB call_len_seq (by rfl) bt.m_len (by decide +kernel) (pa_cons (pv 1) pa_nil)) (nomark _)) (pss_cons (ps_set (i := 4) sc__law_due.nd rfl (Or.inl rfl) (pe_lst pa_nil))
      (pss_cons (ps_while PassesOwn.never (PW.pt (pw_and (pt_cmpR op_lt (pe_op op_add (pv 3) (pe_callB call_len_seq (by rfl) bt.m_len (by decide +kernel) (pa_cons (pv 4) pa_nil))) (pe_callB call_len_seq (by rfl) bt.m_len (by decide +kernel) (pa_cons (pv 1) pa_nil)) (nomark _)) (pw_and1 (pt_cmpR op_eq (pe_ix ix_tup (pe_ix ix_list (pv 1) (pe_op op_add (pv 3) (pe_callB call_len_seq (by rfl) bt.m_len (by decide +kernel) (pa_cons (pv 4) pa_nil))) (fun _ _ => rfl)) pe_int (fun _ _ => rfl)) pe_str (nomark _))))) (pss_one (ps_expr (pe_bm PySem.F.plainAttrs_list PySem.F.slot_list_append PySem.F.type_list_append mt_append (pv 4) (pa_cons (pe_ix ix_list (pv 1) (pe_op op_add (pv 3) (pe_callB call_len_seq (by rfl) bt.m_len (by decide +kernel) (pa_cons (pv 4) pa_nil))) (fun _ _ => rfl)) pa_nil)))))
      (pss_cons (ps_set (i := 5) sc__law_due.nd rfl (Or.inl rfl) (pe_ifExp (pt_cmpR (op_neD hr.units) (pv 4) (pe_lst pa_nil) (nomark _)) (pe_ix ix_tup (pe_cl c__law_cut hg hr (by decide) (by rfl) (pa_cons (pv 0) (pa_cons (pv 4) pa_nil))) pe_int (fun _ _ => rfl)) pe_int))
      (C8.pss_cut (ps_if (pt_cmpR (op_neD hr.units) (pv 4) (pe_lst pa_nil) (nomark _)) (pss_one (ps_expr (pe_bm PySem.F.plainAttrs_list PySem.F.slot_list_append PySem.F.type_list_append mt_append (pv 2) (pa_cons (pe_listRg rfl (by rfl) bt.m_list (prg_2 (by rfl) bt.m_range (pv 3) (pe_op op_add (pv 3) (pv 5)))) pa_nil)))) pss_nil)
      (pss_one (ps_set (i := 3) sc__law_due.nd rfl (Or.inl rfl) (pe_op op_add (pv 3) (pv 5)))))))))
      (pss_one (ps_ret (pv 2))))), ?_⟩
    refine ⟨Nat.zero_le _, fun F nF => ⟨_, _, rfl, ?_⟩⟩
    have sF := same_upd (o := .lst []) nF
    obtain ⟨asr, hc, hT⟩ := id hL
    have hal := hT.1
    let W : Nat → List (Option V) → Hp → Prop := fun k σ H' => ∃ (s : Nat) (acc : List (List Int)) (as : List Addr) (y4 y5 : Option V), k = es.length - s ∧ s ≤ es.length ∧ σ = [some (.ref cc), some (.ref c), some (.ref F), some (.int (s : Nat)), y4, y5] ∧ Same H H' ∧ LL H H' F acc as ∧ acc.length ≤ s ∧
        ∀ r, Due es cbs s r → Due es cbs 0 (acc ++ r)
    refine ⟨W, ⟨_, 0, [], [], _, _, rfl, Nat.zero_le _, rfl, sF, LL.nil upd_same, Nat.zero_le _, fun r h => h⟩, fun k σ H1 w0 => ?_⟩
    obtain ⟨s, acc, as, y4, y5, rfl, hs, rfl, s1, ll, hacl, hdue⟩ := w0
    have hc1 := s1 _ _ hc
    refine ⟨_, rfl, _, rfl, c, _, rfl, .inl (SqL.of hc1), _, _, rfl, rfl, _, rfl, ?_⟩
    rw [List.length_map, hal]
    refine ite2 (fun z => ?_) (fun z => ?_)
    · have hlt : s < es.length := by
        have := of_decide_eq_true z
        omega
      refine ⟨fun σ' H' => ∃ k', k' < es.length - s ∧ W k' σ' H', fun _ _ h => h, ?_⟩
      refine ⟨Nat.zero_le _, fun R nR => ?_⟩
      have sR := same_upd (o := .lst []) nR
      have RF : R ≠ F := (ne_of_none ll.ls nR).symm
      have nRH := s1.free nR
      have ll1 := ll.same sR
      have s2 := s1.trans sR
      let W2 : Nat → List (Option V) → Hp → Prop := fun k σ H' => ∃ (n : Nat), k = es.length - (s + n) ∧ s + n ≤ es.length ∧ Downs es s (s + n) ∧ σ = [some (.ref cc), some (.ref c), some (.ref F), some (.int (s : Nat)), some (.ref R), y5] ∧ Same H H' ∧ LL H H' F acc as ∧ Lst evV H' R (prt es s (s + n)) ∧ (H' R = some (.lst (((asr.drop s).take n).map V.ref)))
      refine ⟨W2, ⟨_, 0, rfl, hs, fun i a b => by omega, rfl, s2, ll1, ⟨[], upd_same, by rw [show prt es s (s + 0) = [] by unfold prt; rw [show s + 0 - s = 0 by omega]; rfl]; exact Tups.nil⟩, upd_same⟩, fun k2 σ2 H2 w2 => ?_⟩
      obtain ⟨n, rfl, hn, hdn, rfl, s3, ll3, hLR, hR⟩ := w2
      have hpl := prt_len (es := es) (s := s) hn
      have hRl : (List.map V.ref ((asr.drop s).take n)).length = n := by rw [List.length_map, List.length_take, List.length_drop, hal]; omega
      have hc3 := s3 _ _ hc
      refine ⟨_, rfl, _, rfl, R, _, rfl, .inl (SqL.of hR), _, _, rfl, rfl, _, rfl, c, _, rfl, .inl (SqL.of hc3), _, _, rfl, rfl, _, rfl, ?_⟩
      rw [hRl, List.length_map, hal]
      by_cases stp : Stops es (s + n)
      · refine (fun G => ite2 (fun z => ?_) (fun z => iteF G)) ?_
        · have hlt2 : s + n < es.length := by
            have := of_decide_eq_true z
            omega
          obtain ⟨b, hb, hbt⟩ := hT.at_ hlt2
          have hb3 := s3 _ _ hbt
          have hd : es[s + n].d = false := by
            rcases stp with h | ⟨ev, h1, h2⟩
            · omega
            · rw [List.getElem?_eq_getElem hlt2] at h1
              rw [Option.some.inj h1]; exact h2
          refine ⟨_, rfl, _, rfl, _, rfl, R, _, rfl, .inl (SqL.of hR), _, _, rfl, rfl, c, _, _, _, rfl, rfl, SqL.of hc3, by rw [hRl]; exact atI_nat (get_map_ref hb), b, _, _, _, rfl, rfl, SqT.of hb3, atI_nat (j := 2) rfl, rfl, _, rfl, ?_⟩
          rw [wayS_down, hd]
          exact iteF G
        · by_cases hn0 : n = 0
          · subst hn0
            have hev : es[s]? = some es[s] := List.getElem?_eq_getElem hlt
            have hd : es[s].d = false := by
              rcases stp with h | ⟨ev, h1, h2⟩
              · omega
              · rw [show s + 0 = s from rfl, hev] at h1
                rw [Option.some.inj h1]; exact h2
            refine ⟨_, rfl, Nat.zero_le _, fun Z nZ => ?_⟩
            have kZ := same_upd (o := .lst []) nZ
            have hR3 : upd H2 Z (.lst []) R = some (.lst []) := kZ _ _ (by rw [hR]; simp)
            refine ⟨.list [], .list [], .lst (SqL.of hR3) .nil, .lst (SqL.of upd_same) .nil, rfl, rfl, _, rfl, iteF ⟨fun σ' H' => ∃ y4, σ' = [some (.ref cc), some (.ref c), some (.ref F), some (.int (s : Nat)), y4, some (.int 1)] ∧ Same H H' ∧ LL H H' F acc as, ?_, fun σ' H' h => ?_⟩⟩
            · refine ⟨_, rfl, Nat.zero_le _, fun Y nY => ?_⟩
              have kY := same_upd (o := .lst []) nY
              exact ⟨.list [], .list [], .lst (SqL.of (kY _ _ hR3)) .nil, .lst (SqL.of upd_same) .nil, rfl, rfl, _, rfl, iteF ⟨_, rfl, (s3.trans kZ).trans kY, (ll3.same kZ).same kY⟩⟩
            · obtain ⟨y4, rfl, s4, ll4⟩ := h
              refine ⟨_, rfl, _, rfl, _, _, rfl, rfl, _, ?_, s + 1, acc, as, y4, some (.int 1), rfl, by omega, ?_, s4, ll4, by omega, fun r h => hdue r (.up hev hd h)⟩
              · omega
              · rfl
          · have hpos : 0 < n := by omega
            rw [show s + n - s = n by omega] at hpl
            have pne : prt es s (s + n) ≠ [] := fun z => by rw [z] at hpl; simp at hpl; omega
            have eqn : PyData.eqv (recD (prt es s (s + n))) (.list []) = false := by
              cases h : prt es s (s + n) with
              | nil => exact absurd h pne
              | cons _ _ => rfl
            have f1 := fp_pos cbs (prt es s (s + n))
            have f2 := fp_le cbs pne
            rw [hpl] at f2
            refine ⟨_, rfl, Nat.zero_le _, fun Z nZ => ?_⟩
            have kZ := same_upd (o := .lst []) nZ
            refine ⟨_, .list [], (hLR.same kZ).dp, .lst (SqL.of upd_same) .nil, shaped_rec _, rfl, _, rfl, ?_⟩
            rw [eqn]
            refine iteT ⟨_, rfl, _, rfl, R, cc, cbs, m, _, rfl, hLR.same kZ, pne, by omega, (hC.same s3).same kZ, ok, fun H3 p x s4 np hp => ?_⟩
            have s5 := (s3.trans kZ).trans s4
            have ll5 := (ll3.same kZ).same s4
            have hLR5 := (hLR.same kZ).same s4
            refine ⟨p, _, _, _, rfl, rfl, SqT.of hp, atI_nat (j := 0) rfl, ?_⟩
            have due1 : ∀ r, Due es cbs (s + fp cbs (prt es s (s + n))) r → Due es cbs 0 ((acc ++ [seg s (s + fp cbs (prt es s (s + n)))]) ++ r) := fun r h => by
              rw [List.append_assoc]
              exact hdue _ (.down (by omega) hdn stp h)
            generalize fp cbs (prt es s (s + n)) = sz at *
            refine ⟨fun σ' H' => ∃ y4 as', σ' = [some (.ref cc), some (.ref c), some (.ref F), some (.int (s : Nat)), y4, some (.int (sz : Nat))] ∧ Same H H' ∧ LL H H' F (acc ++ [seg s (s + sz)]) as', ?_, fun σ' H' h => ?_⟩
            · refine ⟨_, rfl, Nat.zero_le _, fun Y nY => ?_⟩
              have kY := same_upd (o := .lst []) nY
              refine ⟨_, .list [], (hLR5.same kY).dp, .lst (SqL.of upd_same) .nil, shaped_rec _, rfl, _, rfl, ?_⟩
              rw [eqn]
              have ll6 := ll5.same kY
              have s6 := s5.trans kY
              refine iteT ⟨_, rfl, .inl ⟨rfl, _, SqL.of ll6.ls⟩, _, rfl, _, rfl, _, rfl, _, _, rfl, rfl, _, _, rfl, rfl, ⟨by omega, by omega, by omega, by omega⟩, fun L nL => ?_⟩
              rw [show ((s : Int) + (sz : Int)) = ((s + sz : Nat) : Int) by omega, rgV_seg]
              have kL := same_upd (o := .lst ((seg s (s + sz)).map V.int)) nL
              have ll7 := ll6.same kL
              have hll := ll7.len
              have LF : L ≠ F := (ne_of_none ll6.ls nL).symm
              refine ⟨F, _, .ref L, rfl, rfl, ll7.ls, by rw [List.length_map, hll]; exact small1000 (by omega), ?_⟩
              exact ⟨_, as ++ [L], rfl, Same.off (s6.trans kL) nF off_upd, ll7.push upd_same (s6.free nL) LF⟩
            · obtain ⟨y4, as', rfl, s4, ll4⟩ := h
              refine ⟨_, rfl, _, rfl, _, _, rfl, rfl, _, ?_, s + sz, _, as', y4, some (.int (sz : Nat)), rfl, by omega, ?_, s4, ll4, by rw [List.length_append, List.length_singleton]; omega, due1⟩
              · omega
              · rw [Int.natCast_add]; rfl
      · have hlt2 : s + n < es.length := by
          rcases Nat.lt_or_ge (s + n) es.length with h | h
          · exact h
          · exact absurd (.inl (by omega)) stp
        have hd : es[s + n].d = true := by
          cases h : es[s + n].d with
          | true => rfl
          | false => exact absurd (.inr ⟨_, List.getElem?_eq_getElem hlt2, h⟩) stp
        obtain ⟨b, hb, hbt⟩ := hT.at_ hlt2
        have hb3 := s3 _ _ hbt
        refine iteT' (decide_eq_true (by omega)) ?_
        refine ⟨_, rfl, _, rfl, _, rfl, R, _, rfl, .inl (SqL.of hR), _, _, rfl, rfl, c, _, _, _, rfl, rfl, SqL.of hc3, by rw [hRl]; exact atI_nat (get_map_ref hb), b, _, _, _, rfl, rfl, SqT.of hb3, atI_nat (j := 2) rfl, rfl, _, rfl, ?_⟩
        rw [wayS_down, hd]
        refine iteT ⟨fun σ' H' => ∃ k', k' < es.length - (s + n) ∧ W2 k' σ' H', fun _ _ h => h, ?_⟩
        refine ⟨_, rfl, .inl ⟨rfl, _, SqL.of hR⟩, _, rfl, _, rfl, _, rfl, R, _, rfl, .inl (SqL.of hR), _, _, rfl, rfl, c, _, _, _, rfl, rfl, SqL.of hc3, by rw [hRl]; exact atI_nat (get_map_ref hb), R, _, _, rfl, rfl, hR, by rw [hRl]; exact small1000 (by omega), ?_⟩
        have sN := Same.off s3 nRH (off_upd (o := .lst (((asr.drop s).take n).map V.ref ++ [.ref b])))
        obtain ⟨asR, hR', hTR⟩ := hLR
        have easR : asR.map V.ref = ((asr.drop s).take n).map V.ref := by
          rw [hR] at hR'
          injection hR' with e
          injection e with e
          exact e.symm
        refine ⟨es.length - (s + (n + 1)), by omega, n + 1, rfl, by omega, fun i h1 h2 => ?_, rfl, sN, ⟨by rw [upd_ne RF.symm]; exact ll3.ls, ll3.len, fun j a ns x y => ?_, ll3.new⟩, ⟨asR ++ [b], ?_, ?_⟩, ?_⟩
        · by_cases z : i = s + n
          · subst z; exact ⟨_, List.getElem?_eq_getElem hlt2, hd⟩
          · exact hdn i h1 (by omega)
        · have aR : a ≠ R := fun e => by
            obtain ⟨ns', h'⟩ := ll.get (List.mem_of_getElem? x)
            rw [e, nR] at h'
            cases h'
          rw [upd_ne aR]; exact ll3.el j a ns x y
        · rw [upd_same, List.map_append, easR]; rfl
        · rw [← prt_snoc hlt2]
          refine Tups.snoc (hTR.off hR off_upd) ?_
          rw [upd_ne (ne_of hb3 hR (by intro q; cases q))]
          exact hb3
        · rw [upd_same, List.take_add_one, List.getElem?_drop, hb, List.map_append]; rfl
    · have hs' : s = es.length := by
        have : ¬ ((s : Int) < (es.length : Int)) := fun h => z (decide_eq_true h)
        omega
      subst hs'
      refine ⟨_, rfl, q H1 F acc as s1 nF ll ?_ (by omega)⟩
      have := hdue [] (.fin (Nat.le_refl _))
      rwa [List.append_nil] at this
end
end K24

set_option Elab.async false
set_option linter.all false
set_option maxRecDepth 100000
set_option maxHeartbeats 8000000
namespace K24
open PySem PySem.Spec PyProof.Rows L2 Gd Rm La Cb
def lisD (ns : List Int) : PyData := .list (ns.map PyData.int)
theorem neV (x : V) : V.bl (!decide (x = x)) = V.bl false := by simp
theorem eqVt (x : V) : V.bl (decide (x = x)) = V.bl true := by simp
theorem eqv_lis (ns : List Int) : PyData.eqv (lisD ns) (.int 0) = false := rfl
theorem line_of {L n : Nat} {d : PyData} (h : Fit L n d) (hl : L ≤ 3000000) : d.shown.length ≤ sizeLine := by
  have := h.ln
  rw [sizeLine_eq]
  omega
def rowsD (r : List (List Int)) : PyData := .list (r.map lisD)
theorem LL.dp {K : PySem.W.Frag} {H0 H : Hp} {p : Addr} {r : List (List Int)} {as : List Addr} (h : LL H0 H p r as) : Dp K H (.ref p) (rowsD r) := by
  refine .lst (SqL.of h.ls) (dpAll_idx (R := fun ns v => ∃ a, v = .ref a ∧ H a = some (.lst (ns.map V.int))) (fun ns v hv => ?_) _ r (by rw [List.length_map, h.len]) fun i v ns x y => ?_)
  · obtain ⟨a, rfl, ha⟩ := hv
    exact .lst (SqL.of ha) (dpInts _)
  · rw [List.getElem?_map] at x
    cases hx : as[i]? with
    | none => rw [hx] at x; cases x
    | some a =>
      rw [hx] at x
      exact ⟨a, (Option.some.inj x).symm, h.el i a ns hx y⟩
theorem due_seg {es : List Ev} {cbs : List Cmb} {s : Nat} {r : List (List Int)} (h : Due es cbs s r) : ∀ ns ∈ r, ns.length ≤ 3 ∧ ∀ v ∈ ns, 0 ≤ v ∧ v < es.length + 4 := by
  induction h with
  | fin _ => intro ns hn; simp at hn
  | up _ _ _ ih => exact ih
  | @down s e r hs d t _ ih =>
    intro ns hn
    rcases List.mem_cons.mp hn with rfl | hn
    · have hl := prt_len (s := s) (d.le hs)
      have he := d.le hs
      have f3 : fp cbs (prt es s e) ≤ 3 := by
        unfold fp
        split
        · exact Nat.le_refl _
        · split <;> decide
      refine ⟨by rw [seg_len]; omega, fun v hv => ?_⟩
      unfold seg at hv
      obtain ⟨k, hk, rfl⟩ := List.mem_map.mp hv
      have := List.mem_range'_1.mp hk
      omega
    · exact ih ns hn
theorem fit_rows {r : List (List Int)} {n : Nat} (h : ∀ ns ∈ r, ns.length ≤ 3 ∧ ∀ v ∈ ns, 0 ≤ v ∧ v < (n : Int)) (hn : n ≤ 1000) (hl : r.length ≤ 1000) : Fit 1100000 2 (rowsD r) := by
  refine Fit.mono (fit_list (L := 1000) (n := 1) fun d hd => ?_) (by rw [List.length_map]; omega) (Nat.le_refl _)
  obtain ⟨ns, hs, rfl⟩ := List.mem_map.mp hd
  obtain ⟨a, b⟩ := h ns hs
  refine Fit.mono (fit_list (L := 210) (n := 0) fun d hd => ?_) (by rw [List.length_map]; omega) (Nat.le_refl _)
  obtain ⟨v, hv, rfl⟩ := List.mem_map.mp hd
  have := b v hv
  exact fit_int (by omega)
theorem fit_kept {many : Int} {cbs : List Cmb} {es : List Ev} (hm : many ≤ 1000) (ok : CbsOk many cbs) (sm : Small es) (hl : es.length ≤ 1000) : Fit 3000000 4 (.list [cmbsD cbs, recD es]) := by
  refine Fit.mono (fit_list (L := 1100000) (n := 3) fun d hd => ?_) (by show 2 * 1100002 + 3 ≤ 3000000; decide) (Nat.le_refl _)
  simp only [List.mem_cons, List.mem_nil_iff, or_false] at hd
  rcases hd with rfl | rfl
  · exact Fit.mono (fit_cmbs hm ok) (by decide) (by decide)
  · exact Fit.mono (fit_rec sm hl) (Nat.le_refl _) (by decide)
section
variable {P : Program} {w : World} {K : PySem.W.Frag} {mg : Str → Option Value} {base : Heap}
def spLRight : Sp := fun vs H Q _ => ∃ (cc c : Addr) (cbs : List Cmb) (m : Int) (es : List Ev), vs = [.int m, .ref cc, .ref c] ∧ 1 ≤ m ∧ m ≤ 10 ∧ Cmbs H cc cbs ∧ CbsOk m cbs ∧ Rc H c m es ∧ Small es ∧
  ∀ H', Same H H' → Q (.bl true) H'
theorem ok__law_right (bt : Bt mg) (a : At K mg "_law_right" s__law_right ["_law_many", "_law_combos_here", "_law_record"]) (c__law_due : Cl P w K mg base 2 "_law_due" spLDue) (c_pieces : Cl P w K mg base 8 "pieces" spPieces) : Cl P w K mg base 9 "_law_right" spLRight := by
  refine clG a sc__law_right (fun vs H Q E h => ?_) (fun f cdv A outer s H vs Q hg hr h => ?_)
  · obtain ⟨cc, c, cbs, m, es, rfl, _⟩ := h
    rfl
  · obtain ⟨cc, c, cbs, m, es, rfl, m1, m2, hC, ok, R, sm, q⟩ := h
    refine ⟨_, (pss_cons (ps_par (i := 3) (j := 4) rfl sc__law_right.nd rfl rfl (by decide) rfl rfl (pa_cons (pe_callB (call_repA hg hr) (by rfl) bt.m_repr (by decide +kernel) (pa_cons (pe_lst (pa_cons (pv 1) (pa_cons (pv 2) pa_nil))) pa_nil)) (pa_cons (pe_cl c__law_due hg hr (by decide) (by rfl) (pa_cons (pv 1) (pa_cons (pv 2) pa_nil))) pa_nil)) (by rfl))
      (pss_cons (ps_set (i := 5) sc__law_right.nd rfl (Or.inl rfl) (pe_cl c_pieces hg hr (by decide) (by rfl) (pa_cons (pv 0) (pa_cons (pv 1) (pa_cons (pv 2) pa_nil)))))
      (pss_cons (ps_if (pt_cmpR op_ne (pe_callB (call_repA hg hr) (by rfl) bt.m_repr (by decide +kernel) (pa_cons (pv 5) pa_nil)) (pe_callB (call_repA hg hr) (by rfl) bt.m_repr (by decide +kernel) (pa_cons (pv 4) pa_nil)) (nomark _)) (pss_one (ps_ret pe_bl)) pss_nil)
      (pss_cons (ps_expr (pe_bm PySem.F.plainAttrs_list PySem.F.slot_list_append PySem.F.type_list_append mt_append (pv 5) (pa_cons pe_int pa_nil)))
      (C8.pss_cut (ps_if (pt_cmpR (op_neD hr.units) (pe_ix ix_list (pv 5) pe_int (fun _ _ => rfl)) pe_int (nomark _)) (pss_one (ps_expr (pe_bm PySem.F.plainAttrs_list PySem.F.slot_list_append PySem.F.type_list_append mt_append (pe_ix ix_list (pv 5) pe_int (fun _ _ => rfl)) (pa_cons pe_int pa_nil)))) pss_nil)
      (pss_one (ps_ret (pe_and (pe_cmpR op_eq (pe_callB (call_repA hg hr) (by rfl) bt.m_repr (by decide +kernel) (pa_cons (pe_cl c_pieces hg hr (by decide) (by rfl) (pa_cons (pv 0) (pa_cons (pv 1) (pa_cons (pv 2) pa_nil)))) pa_nil)) (pe_callB (call_repA hg hr) (by rfl) bt.m_repr (by decide +kernel) (pa_cons (pv 4) pa_nil)) (nomark _)) (pe_one (pe_cmpR op_eq (pe_callB (call_repA hg hr) (by rfl) bt.m_repr (by decide +kernel) (pa_cons (pe_lst (pa_cons (pv 1) (pa_cons (pv 2) pa_nil))) pa_nil)) (pv 3) (nomark _))))))))))), ?_⟩
    refine ⟨_, rfl, _, rfl, (by show 2 ≤ sizeLine; decide), fun Z nZ => ?_⟩
    have kZ := same_upd (o := .lst [.ref cc, .ref c]) nZ
    have l4 := R.len
    have F1 := fit_kept (cbs := cbs) (es := es) (show m ≤ 1000 by omega) ok sm (by omega)
    have dp1 : ∀ {H' : Hp}, Same H H' → ∀ {z : Addr}, H' z = some (.lst [.ref cc, .ref c]) → Dp K H' (.ref z) (.list [cmbsD cbs, recD es]) := fun {H'} s {z} hz =>
      .lst (SqL.of hz) (.cons (hC.same s).dp (.cons (R.ls.same s).dp .nil))
    refine ⟨_, _, rfl, dp1 kZ upd_same, F1.sh, by have := F1.dp; omega, line_of F1 (by decide), ?_⟩
    refine ⟨_, rfl, _, rfl, cc, c, cbs, m, es, rfl, R.ls.same kZ, l4, hC.same kZ, ok, fun H1 pd r asd s1 npd lld dued rl => ⟨_, _, rfl, ?_⟩⟩
    have t1 := kZ.trans s1
    have F2 := fit_rows (due_seg dued) (n := es.length + 4) (by omega) (by omega)
    refine ⟨_, rfl, _, rfl, _, rfl, cc, c, cbs, m, es, rfl, m1, m2, hC.same t1, ok, R.same t1, fun H2 p1 r1 as1 s2 np1 ll1 due1 rl1 => ?_⟩
    have e1 := Due.uniq due1 dued
    subst e1
    have lld2 := lld.same s2
    have t2 := t1.trans s2
    refine ⟨_, rfl, _, _, rfl, ll1.dp, F2.sh, by have := F2.dp; omega, line_of F2 (by decide), _, rfl, _, _, rfl, lld2.dp, F2.sh, by have := F2.dp; omega, line_of F2 (by decide), rfl, false, neV _, iteF ?_⟩
    refine ⟨_, rfl, .inl ⟨rfl, _, SqL.of ll1.ls⟩, p1, _, _, rfl, rfl, ll1.ls, by rw [List.length_map, ll1.len]; exact small1000 (by omega), ?_⟩
    have s3 : Same H1 (upd H2 p1 (.lst (as1.map V.ref ++ [.int 0]))) := Same.off s2 np1 off_upd
    refine ⟨fun σ' H' => σ' = [some (.int m), some (.ref cc), some (.ref c), some (.str (PyData.list [cmbsD cbs, recD es]).shown), some (.ref pd), some (.ref p1)] ∧ Same H1 H', ?_, fun σ' H' h => ?_⟩
    · have hp := upd_same (H := H2) (a := p1) (o := .lst (as1.map V.ref ++ [.int 0]))
      have hl1 := ll1.len
      cases r1 with
      | nil =>
        have e0 : as1 = [] := List.eq_nil_of_length_eq_zero (by rw [hl1]; rfl)
        subst e0
        exact ⟨_, rfl, p1, _, _, _, rfl, rfl, SqL.of hp, atI_nat (j := 0) rfl, .int 0, .int 0, .int _, .int _, rfl, rfl, _, rfl, iteF ⟨rfl, s3⟩⟩
      | cons ns r2 =>
        cases as1 with
        | nil => simp at hl1
        | cons a0 as2 =>
          have ha := ll1.el 0 a0 ns rfl rfl
          have n0 := ll1.new a0 List.mem_cons_self
          have ha' : upd H2 p1 (.lst ((a0 :: as2).map V.ref ++ [.int 0])) a0 = some (.lst (ns.map V.int)) := by rw [upd_ne n0.2]; exact ha
          have hn3 := (due_seg dued ns List.mem_cons_self).1
          refine ⟨_, rfl, p1, _, _, _, rfl, rfl, SqL.of hp, atI_nat (j := 0) rfl, lisD ns, .int 0, .lst (SqL.of ha') (dpInts _), .int _, shaped_ints _, rfl, _, rfl, iteT ?_⟩
          refine ⟨_, rfl, p1, _, _, _, rfl, rfl, SqL.of hp, atI_nat (j := 0) rfl, .inl ⟨rfl, _, SqL.of ha'⟩, a0, _, _, rfl, rfl, ha', by rw [List.length_map]; exact small1000 (by omega), ?_⟩
          exact ⟨rfl, Same.off s3 n0.1 off_upd⟩
    · obtain ⟨rfl, s4⟩ := h
      have t4 := t1.trans s4
      have lld4 := lld.same s4
      refine ⟨_, rfl, _, rfl, _, rfl, cc, c, cbs, m, es, rfl, m1, m2, hC.same t4, ok, R.same t4, fun H5 p2 r2 as2 s5 np2 ll2 due2 rl2 => ?_⟩
      have e2 := Due.uniq due2 dued
      subst e2
      have lld5 := lld4.same s5
      have t5 := t4.trans s5
      refine ⟨_, _, rfl, ll2.dp, F2.sh, by have := F2.dp; omega, line_of F2 (by decide), _, rfl, _, _, rfl, lld5.dp, F2.sh, by have := F2.dp; omega, line_of F2 (by decide), ?_⟩
      refine ⟨rfl, true, eqVt _, iteT ?_⟩
      refine ⟨_, rfl, _, rfl, (by show 2 ≤ sizeLine; decide), fun Y nY => ?_⟩
      have kY := same_upd (o := .lst [.ref cc, .ref c]) nY
      refine ⟨_, _, rfl, dp1 (t5.trans kY) upd_same, F1.sh, by have := F1.dp; omega, line_of F1 (by decide), _, rfl, rfl, ?_⟩
      have := q _ (t5.trans kY)
      rw [← eqVt (V.str (PyData.list [cmbsD cbs, recD es]).shown)] at this
      exact this
end
end K24

set_option Elab.async false
set_option linter.all false
set_option maxRecDepth 100000
set_option maxHeartbeats 16000000
namespace K24
open PySem PySem.Spec PyProof.Rows L2 Gd Rm La Cb
/-- where the law stands between two asks -/
structure Now (H2 H : Hp) (r p c : Addr) (k m : Nat) (cbs : List Cmb) (es : List Ev) : Prop where
  off : Rm.Off r H2 H
  rl : Reel H r k
  cb : Cmbs H p cbs
  ok : CbsOk m cbs
  ls : Lst evV H c es
  val : Valid es
  len : es.length ≤ 200
  key : ∀ e ∈ es, 0 ≤ e.k ∧ e.k < m
  tick : ∀ e ∈ es, -(10 ^ 20) < e.t ∧ e.t < 10 ^ 20
  np : H2 p = none
  pr : p ≠ r
  cr : c ≠ r
  cp : c ≠ p
theorem Now.same {H2 H H' : Hp} {r p c : Addr} {k m : Nat} {cbs : List Cmb} {es : List Ev} (h : Now H2 H r p c k m cbs es) (s : Same H H') : Now H2 H' r p c k m cbs es :=
  { h with off := h.off.sameTrans s, rl := h.rl.same s, cb := h.cb.same s, ls := h.ls.same s }
theorem Now.small {H2 H : Hp} {r p c : Addr} {k m : Nat} {cbs : List Cmb} {es : List Ev} (h : Now H2 H r p c k m cbs es) (hm : m ≤ 10) : Small es := fun e he => by
  have a := h.tick e he
  have b := h.key e he
  have t1 : (10 : Int) ^ 20 < 2 ^ 200 := by decide
  constructor <;> omega
theorem Now.rc {H2 H : Hp} {r p c : Addr} {k m : Nat} {cbs : List Cmb} {es : List Ev} (h : Now H2 H r p c k m cbs es) : Rc H c m es := ⟨h.ls, h.val, by have := h.len; omega, fun e he => (h.key e he).2⟩
theorem Now.mono {H2 H : Hp} {r p c : Addr} {k k' m : Nat} {cbs : List Cmb} {es : List Ev} (h : Now H2 H r p c k m cbs es) (l : k ≤ k') : Now H2 H r p c k' m cbs es := { h with rl := h.rl.mono l }
theorem Now.draw {H2 H H' : Hp} {r p c : Addr} {k k' m : Nat} {cbs : List Cmb} {es : List Ev} (h : Now H2 H r p c k m cbs es) (o : Rm.Off r H H') (R : Reel H' r k') : Now H2 H' r p c k' m cbs es :=
  { h with off := h.off.trans o, rl := R, cb := h.cb.go (h.rl.tk o) (fun vs x => o _ _ x h.pr), ls := h.rl.lst h.ls h.cr o }
theorem Now.put {H2 H : Hp} {r p c : Addr} {k m : Nat} {cbs : List Cmb} {es : List Ev} (N : Now H2 H r p c k m cbs es) {vs : List V} (hp : H p = some (.lst vs)) {sp : Nat} (hs : sp < cbs.length) {T kk : Addr} {t : Int}
    (hT : H T = some (.tup [.ref kk, .int t, .str "w"])) (hk : H kk = some (.tup (cbs[sp].ks.map V.int))) (t1 : 1 ≤ t) (t2 : t ≤ 10 ^ 9) :
    Now H2 (upd H p (.lst (vs.set sp (.ref T)))) r p c k m (cbs.set sp ⟨cbs[sp].ks, t, "w"⟩) es := by
  have tk : Tk H (upd H p (.lst (vs.set sp (.ref T)))) := fun b xs h => by rw [upd_ne (ne_of h hp (by intro q; cases q))]; exact h
  obtain ⟨vs', hp', hl, hv⟩ := N.cb
  rw [hp] at hp'
  injection hp' with e
  injection e with e
  subst e
  have o1 := N.ok.all _ (List.getElem_mem hs)
  refine { N with off := N.off.new N.np, rl := N.rl.upd N.pr, ls := N.ls.off hp N.cp off_upd, cb := ⟨_, upd_same, by rw [List.length_set, List.length_set, hl], fun i v cb x y => ?_⟩, ok := ⟨fun cb h => ?_, by rw [List.length_set]; exact N.ok.few, ?_⟩ }
  · by_cases z : sp = i
    · subst z
      rw [List.getElem?_set_self (by omega)] at x
      rw [List.getElem?_set_self hs] at y
      rw [← Option.some.inj x, ← Option.some.inj y]
      exact ⟨T, kk, rfl, tk _ _ hT, tk _ _ hk⟩
    · rw [List.getElem?_set_ne z] at x y
      exact (hv i v cb x y).tk tk
  · rcases List.mem_or_eq_of_mem_set h with h | rfl
    · exact N.ok.all cb h
    · exact ⟨o1.asc, o1.len, o1.key, ⟨t1, t2⟩, (codes_ok "w" (by decide +kernel) : CodeOk "w")⟩
  · rw [List.map_set]
    have : (cbs.map Cmb.ks).set sp cbs[sp].ks = cbs.map Cmb.ks := by
      have e : cbs[sp].ks = (cbs.map Cmb.ks)[sp]'(by rw [List.length_map]; exact hs) := (List.getElem_map _).symm
      rw [e, List.set_getElem_self]
    show ((cbs.map Cmb.ks).set sp cbs[sp].ks).Nodup
    rw [this]
    exact N.ok.apart
section
variable {P : Program} {w : World} {K : PySem.W.Frag} {mg : Str → Option Value} {base : Heap}
def spLaw (K : PySem.W.Frag) : Sp := fun vs H Q _ => ∃ (a : Addr) (ns : List Int), vs = [.ref a] ∧ SqL K H a (ns.map V.int) ∧ ns.length ≤ 63 ∧ ∀ H', Q (.bl true) H'
theorem ok_law {f : Addr} {fd : FuncData} (bt : Bt mg) (a : Fun K "law" "law" s_law f fd) (c__law_spring : Cl P w K mg base 1 "_law_spring" (spPool K)) (c__law_take : Cl P w K mg base 1 "_law_take" spDraw) (c__law_combos : Cl P w K mg base 2 "_law_combos" spLCombos)
    (c__law_presses : Cl P w K mg base 3 "_law_presses" spPresses) (c__law_right : Cl P w K mg base 9 "_law_right" spLRight) (c_pieces : Cl P w K mg base 8 "pieces" spPieces) : FnG P w K mg base 10 f fd ["_law_script"] (spLaw K) := by
  refine fnG a sc_law (fun vs H Q E h => ?_) (fun cdv A outer s H vs Q hg hr h => ?_)
  · obtain ⟨a, e, rfl, _⟩ := h
    rfl
  · obtain ⟨sc, ns, rfl, hS, hl, q⟩ := h
    refine ⟨_, (pss_cons (ps_for PassesOwn.never rfl (pi_range1 (by rfl) bt.m_range (pa_cons (pe_callB (call_max2 rfl) (by rfl) bt.m_max (by decide +kernel) (pa_cons pe_int (pa_cons (pe_callB (call_min2 rfl) (by rfl) bt.m_min (by decide +kernel) (pa_cons pe_int (pa_cons (pe_callB call_len_seq (by rfl) bt.m_len (by decide +kernel) (pa_cons (pv 0) pa_nil)) pa_nil))) pa_nil))) pa_nil)) (pg_name (i := 1) sc_law.nd rfl (Or.inl rfl)) (pss_cons (ps_set (i := 2) sc_law.nd rfl (Or.inl rfl) (pe_cl c__law_spring hg hr (by decide) (by rfl) (pa_cons (pv 0) (pa_cons (pv 1) pa_nil))))
      (pss_cons (ps_set (i := 3) sc_law.nd rfl (Or.inl rfl) (pe_op op_add pe_int (pe_cl c__law_take hg hr (by decide) (by rfl) (pa_cons (pv 2) (pa_cons pe_int pa_nil)))))
      (pss_cons (ps_set (i := 4) sc_law.nd rfl (Or.inl rfl) (pe_cl c__law_combos hg hr (by decide) (by rfl) (pa_cons (pv 2) (pa_cons (pv 3) (pa_cons (pe_op op_powW pe_int pe_int) pa_nil)))))
      (C8.pss_cut (ps_set (i := 5) sc_law.nd rfl (Or.inl rfl) (pe_ifExp (PW.pt (pw_and (pt_cmpR op_eq (pv 1) pe_int (nomark _)) (pw_and1 (pt_cmpR op_lt (pe_callB call_len_seq (by rfl) bt.m_len (by decide +kernel) (pa_cons (pv 0) pa_nil)) pe_int (nomark _))))) (pe_cl c__law_take hg hr (by decide) (by rfl) (pa_cons (pv 2) (pa_cons pe_int pa_nil))) (pe_cl c__law_take hg hr (by decide) (by rfl) (pa_cons (pv 2) (pa_cons pe_int pa_nil)))))
      (pss_cons (ps_set (i := 6) sc_law.nd rfl (Or.inl rfl) (pe_cl c__law_presses hg hr (by decide) (by rfl) (pa_cons (pv 2) (pa_cons (pv 3) (pa_cons (pv 5) (pa_cons (pe_op op_cat (pe_lst (pa_cons pe_int pa_nil)) (pe_lc (own := [("_law_combo", 9)]) (g := (gName 9)) (by rfl) sc_law.nd (pi_list (pv 4)) (blkOk_by (N := n_law) (sc := defScope s_law) (by decide +kernel)) (fun _ _ _ _ _ => (pg_name (i := 9) sc_law.nd rfl (Or.inl rfl))) (fun _ _ _ _ _ => pts_nil) (fun _ _ _ _ _ => (pe_ix (r := rIxT K) ix_tup (pv 9) pe_int (fun _ _ => rfl))))) pa_nil))))))
      (pss_cons (ps_if (pt_not (pt_val (pe_cl c__law_right hg hr (by decide) (by rfl) (pa_cons (pv 3) (pa_cons (pv 4) (pa_cons (pv 6) pa_nil)))))) (pss_one (ps_ret pe_bl)) pss_nil)
      (pss_one (ps_for PassesOwn.never rfl (pi_range1 (by rfl) bt.m_range (pa_cons pe_int pa_nil)) (pg_name (i := 7) sc_law.nd rfl (Or.inl rfl)) (C8.pss_cut (ps_if (pt_cmpR (op_neD hr.units) (pv 4) (pe_lst pa_nil) (nomark _)) (pss_cons (ps_set (i := 8) sc_law.nd rfl (Or.inl rfl) (pe_cl c__law_take hg hr (by decide) (by rfl) (pa_cons (pv 2) (pa_cons (pe_callB call_len_seq (by rfl) bt.m_len (by decide +kernel) (pa_cons (pv 4) pa_nil)) pa_nil))))
      (pss_one (ps_asg (pe_tup (pa_cons (pe_ix ix_tup (pe_ix ix_list (pv 4) (pv 8) (fun _ _ => rfl)) pe_int (fun _ _ => rfl)) (pa_cons (pe_op op_add pe_int (pe_cl c__law_take hg hr (by decide) (by rfl) (pa_cons (pv 2) (pa_cons pe_int pa_nil)))) (pa_cons pe_str pa_nil)))) (pg_sub (pv 4) (pv 8) set_list)))) pss_nil)
      (pss_cons (ps_set (i := 6) sc_law.nd rfl (Or.inl rfl) (pe_slice sl_list (pv 6) po_none (po_some (pe_cl c__law_take hg hr (by decide) (by rfl) (pa_cons (pv 2) (pa_cons (pe_op op_add (pe_callB call_len_seq (by rfl) bt.m_len (by decide +kernel) (pa_cons (pv 6) pa_nil)) pe_int) pa_nil))))))
      (pss_one (ps_if (pt_not (pt_val (pe_cl c__law_right hg hr (by decide) (by rfl) (pa_cons (pv 3) (pa_cons (pv 4) (pa_cons (pv 6) pa_nil)))))) (pss_one (ps_ret pe_bl)) pss_nil)))))))))))))
      (pss_one (ps_ret (pe_cmpR (op_eqD hr.units) (pe_cl c_pieces hg hr (by decide) (by rfl) (pa_cons pe_int (pa_cons (pe_lst pa_nil) (pa_cons (pe_lst pa_nil) pa_nil)))) (pe_lst pa_nil) (nomark _))))), ?_⟩
    refine ⟨_, rfl, sc, _, rfl, .inl hS, _, _, rfl, ?_⟩
    refine ⟨1, _, rfl, _, rfl, ?_, ?_, ?_⟩
    · (repeat' split) <;> omega
    · (repeat' split) <;> omega
    refine for_it walk_range (fun i σ H' => Same H H' ∧ ∃ y1 y2 y3 y4 y5 y6 y7 y8 y9, σ = [some (.ref sc), y1, y2, y3, y4, y5, y6, y7, y8, y9]) ⟨Same.refl _, _, _, _, _, _, _, _, _, _, rfl⟩ (fun _ _ _ _ _ => True.intro) (fun i x σ Hx H1 hi p y => ?_) (fun σ H1 p => ?_)
    · obtain ⟨s1, y1, y2, y3, y4, y5, y6, y7, y8, y9, rfl⟩ := p
      obtain ⟨rfl, hx⟩ := y
      have hx : x = .int (0 + (i : Int)) := hx
      have e0 : (0 : Int) + (i : Int) = ((i : Nat) : Int) := Int.zero_add _
      rw [e0] at hx
      subst hx
      have hi4 : i < 60 := by
        refine Nat.lt_of_lt_of_le hi ?_
        (repeat' split) <;> omega
      have hS1 : SqL K H1 sc (ns.map V.int) := s1.seq hS
      refine ⟨_, rfl, _, rfl, sc, ns, i, rfl, hS1, hl, hi4, fun r H2 s2 nr R2 => ?_⟩
      refine ⟨_, rfl, r, 10, 0, rfl, by decide, by decide, by decide, R2, fun d1 H3 d10 d11 R3 o3 => ⟨_, _, rfl, rfl, ?_⟩⟩
      have oS : ∀ {H5 : Hp}, Off r H2 H5 → SqL K H5 sc (ns.map V.int) := fun {H5} o => by
        rcases hS1 with h | h
        · rcases h with h | ⟨ob, h⟩
          · exact .inl (.inl (o _ _ (s2 _ _ h) (ne_of_none h nr)))
          · exact .inl (.inr ⟨ob, o _ _ (s2 _ _ h) (ne_of_none h nr)⟩)
        · exact .inr h
      obtain ⟨k, rfl⟩ := Int.eq_ofNat_of_zero_le d10
      refine ⟨_, rfl, _, rfl, _, _, rfl, rfl, powW (n := 40) (k := 9) (by decide) (by decide), r, 1, 1 + k, _, rfl, R3, by decide, by omega, by omega, by decide, by decide, fun H4 p cbs o4 np R4 hC4 ok => ?_⟩
      have pr : p ≠ r := R3.new np
      have np2 : H2 p = none := R3.free o3 np
      have o24 := o3.trans o4
      refine ⟨fun σ' H' => ∃ size : Nat, σ' = [some (.ref sc), some (.int (i : Nat)), some (.ref r), some (.int ((1 + k : Nat) : Int)), some (.ref p), some (.int (size : Nat)), y6, y7, y8, y9] ∧ size ≤ 200 ∧ Rm.Off r H4 H' ∧ Reel H' r 102, ?_, fun σ' H5 h => ?_⟩
      · have big : (10 : Int) ^ 40 > 1000 := by decide
        refine ⟨_, rfl, rfl, _, rfl, ite2 (fun z => ⟨_, rfl, sc, _, rfl, .inl (oS o24), _, _, rfl, rfl, _, rfl, ite2 (fun z2 => ?_) (fun z2 => ?_)⟩) (fun z => ?_)⟩
        · refine ⟨_, rfl, r, 201, 101, rfl, by decide, by omega, by decide, R4, fun d H5 d0 d1 R5 o5 => ?_⟩
          obtain ⟨n, rfl⟩ := Int.eq_ofNat_of_zero_le d0
          exact ⟨n, rfl, by omega, o5, R5⟩
        all_goals
          refine ⟨_, rfl, r, 41, 101, rfl, by decide, by omega, by decide, R4, fun d H5 d0 d1 R5 o5 => ?_⟩
          obtain ⟨n, rfl⟩ := Int.eq_ofNat_of_zero_le d0
          exact ⟨n, rfl, by omega, o5, R5⟩
      · obtain ⟨size, rfl, hsz, o5, R5⟩ := h
        have hC5 : Cmbs H5 p cbs := hC4.go (R4.tk o5) (fun vs h => o5 _ _ h pr)
        have o25 := o24.trans o5
        obtain ⟨vs, hp, hCv⟩ := id hC5
        have hvl := hCv.1
        have few := ok.few
        refine ⟨_, rfl, _, rfl, _, rfl, (by show 1 ≤ sizeLine; decide), fun L1 nL1 => ?_⟩
        have k1 := same_upd (o := .lst [.int 1]) nL1
        have hL1 := upd_same (H := H5) (a := L1) (o := .lst [.int 1])
        refine ⟨_, rfl, p, rfl, ⟨_, SqL.of (k1 _ _ hp)⟩, fun M nM => lc_it (walk_list (xs := vs)) (fun t H' => Same (upd H5 L1 (.lst [.int 1])) H' ∧ H' M = some (.lst (((cbs.take t).map Cmb.t).map V.int))) ⟨same_upd nM, upd_same⟩ (fun t H' _ z => SqL.of (z.1 _ _ (k1 _ _ hp))) (fun t x H6 H7 ht z y => ?_) (fun H6 z => ?_)⟩
        · obtain ⟨rfl, e2⟩ := y
          obtain ⟨z1, z2⟩ := z
          have ht' : t < cbs.length := by omega
          obtain ⟨ad, kk, hv, ha, hk⟩ := Cmbs.at_ hCv ht'
          have e2' : x = .ref ad := Option.some.inj (e2.symm.trans hv)
          subst e2'
          refine ⟨rfl, _, rfl, ad, _, _, _, rfl, rfl, SqT.of (z1 _ _ (k1 _ _ ha)), atI_nat (j := 1) rfl, _, z2, ?_, Same.off z1 nM off_upd, ?_⟩
          · rw [List.length_map, List.length_map, List.length_take]; exact small1000 (by omega)
          · rw [upd_same, List.take_add_one, List.getElem?_eq_getElem ht', List.map_append, List.map_append]; rfl
        · obtain ⟨z1, z2⟩ := z
          rw [hvl, List.take_length] at z2
          refine ⟨L1, M, _, _, rfl, rfl, z1 _ _ hL1, z2, by rw [List.length_map, List.length_map]; show 1 + cbs.length ≤ sizeLine; exact Nat.le_of_lt (small1000 (by omega)), fun U nU => ?_⟩
          have s6 := (k1.trans z1).trans (same_upd (o := .lst ([.int 1] ++ (cbs.map Cmb.t).map V.int)) nU)
          have R6 := R5.same s6
          have hU : upd H6 U (.lst ([.int 1] ++ (cbs.map Cmb.t).map V.int)) U = some (.lst (((1 : Int) :: cbs.map Cmb.t).map V.int)) := upd_same
          have Ur : U ≠ r := (R5.same (k1.trans z1)).new nU
          refine ⟨r, U, 102, 1 + k, size, 1 :: cbs.map Cmb.t, rfl, R6, by decide, by omega, by omega, hsz, hU, Ur, Nat.succ_pos _, by rw [List.length_cons, List.length_map]; omega, fun t ht => ?_, fun H7 c es o7 nc R7 hL rc => ?_⟩
          · rcases List.mem_cons.mp ht with rfl | ht
            · decide
            · obtain ⟨cb, hc, rfl⟩ := List.mem_map.mp ht
              exact (ok.all cb hc).time
          have hC7 := (hC5.same s6).go (R6.tk o7) (fun vs h => o7 _ _ h pr)
          have cr : c ≠ r := R6.new nc
          have cp : c ≠ p := (ne_of_none (s6 _ _ hp) nc).symm
          have N7 : Now H2 H7 r p c 4102 (1 + k) cbs es := ⟨(o25.sameTrans s6).trans o7, R7.mono (by decide), hC7, ok, hL, rc.valid, by rw [rc.len]; exact hsz, rc.key, rc.tick, np2, pr, cr, cp⟩
          refine ⟨_, rfl, _, rfl, _, rfl, p, c, cbs, ((1 + k : Nat) : Int), es, rfl, by omega, by omega, N7.cb, ok, N7.rc, N7.small (by omega), fun H8 s8 => ⟨_, rfl, iteF ?_⟩⟩
          have N8 := N7.same s8
          refine ⟨2, rfl, by decide, by decide, for_it walk_range (fun t σ H' => ∃ (c : Addr) (cbs : List Cmb) (es : List Ev) (z5 z7 z8 z9 : Option V), σ = [some (.ref sc), some (.int (i : Nat)), some (.ref r), some (.int ((1 + k : Nat) : Int)), some (.ref p), z5, some (.ref c), z7, z8, z9] ∧ Now H2 H' r p c (4102 + 3 * t) (1 + k) cbs es)
            ⟨c, cbs, es, _, _, _, _, rfl, N8⟩ (fun _ _ _ _ _ => True.intro) (fun t x σ H9 H10 ht h y => ?_) (fun σ H9 h => ?_)⟩
          · obtain ⟨c, cbs, es, z5, z7, z8, z9, rfl, N⟩ := h
            obtain ⟨rfl, rfl⟩ := y
            have ht2 : t < 2 := ht
            refine ⟨fun σ' H' => ∃ (cbs : List Cmb) (z8 : Option V), σ' = [some (.ref sc), some (.int (i : Nat)), some (.ref r), some (.int ((1 + k : Nat) : Int)), some (.ref p), z5, some (.ref c), some (.int (0 + (t : Int))), z8, z9] ∧ Now H2 H' r p c (4102 + 3 * t + 2) (1 + k) cbs es, ?_, fun σ' H11 h => ?_⟩
            · refine ⟨_, rfl, Nat.zero_le _, fun Z nZ => ?_⟩
              have kZ := same_upd (o := .lst []) nZ
              have NZ := N.same kZ
              refine ⟨cmbsD cbs, .list [], NZ.cb.dp, .lst (SqL.of upd_same) .nil, shaped_cmbs cbs (fun cb h => (N.ok.all cb h).code), rfl, !cbs.isEmpty, congrArg V.bl (by cases cbs <;> rfl), ?_⟩
              cases hb : cbs.isEmpty with
              | true => exact iteF ⟨cbs, z8, rfl, NZ.mono (by omega)⟩
              | false =>
                refine iteT ?_
                have hpos : 0 < cbs.length := by
                  cases cbs with
                  | nil => cases hb
                  | cons _ _ => exact Nat.succ_pos _
                have few := N.ok.few
                have big : (10 : Int) ^ 40 > 1000 := by decide
                obtain ⟨vs, hp, hCv⟩ := id NZ.cb
                have hvl := hCv.1
                refine ⟨_, rfl, _, rfl, p, _, rfl, .inl (SqL.of hp), r, _, 4102 + 3 * t, rfl, by omega, by omega, by show _ < 1000000000; omega, NZ.rl, fun sa H11 s0 s1' R11 o11 => ?_⟩
                obtain ⟨sp, rfl⟩ := Int.eq_ofNat_of_zero_le s0
                have hsp : sp < cbs.length := by omega
                have N11 := NZ.draw o11 R11
                obtain ⟨vs, hp, hCv⟩ := id N11.cb
                have hvl := hCv.1
                obtain ⟨ad, kk, hv, ha, hk⟩ := Cmbs.at_ hCv hsp
                refine ⟨_, rfl, _, rfl, p, _, _, _, rfl, rfl, SqL.of hp, atI_nat hv, ad, _, _, _, rfl, rfl, SqT.of ha, atI_nat (j := 0) rfl, ?_⟩
                refine ⟨_, rfl, r, 9, 4102 + 3 * t + 1, rfl, by decide, by omega, by show _ < 1000000000; omega, R11, fun d H12 d0 d1 R12 o12 => ⟨_, _, rfl, rfl, (by show 3 ≤ sizeLine; decide), fun T nT => ?_⟩⟩
                have kT := same_upd (o := .tup [.ref kk, .int (1 + d), .str "w"]) nT
                have N12 := (N11.draw o12 R12).same kT
                have hp12 := kT _ _ (o12 _ _ hp N.pr)
                have hk12 := kT _ _ (R11.tk o12 _ _ hk)
                refine ⟨_, rfl, _, rfl, p, _, _, sp, rfl, rfl, hp12, ?_, ?_⟩
                · exact ixN_nat (by omega)
                · exact ⟨_, _, rfl, N12.put hp12 hsp upd_same hk12 (by omega) (by omega)⟩
            · obtain ⟨cbs, z8, rfl, N⟩ := h
              obtain ⟨asr, hc, hT⟩ := id N.ls
              have hal := hT.1
              have hl2 := N.len
              have big : (10 : Int) ^ 40 > 1000 := by decide
              refine ⟨_, rfl, _, rfl, _, rfl, c, _, rfl, .inl (SqL.of hc), _, _, rfl, rfl, r, _, 4102 + 3 * t + 2, rfl, by rw [List.length_map]; omega, by rw [List.length_map]; omega, by show _ < 1000000000; omega, N.rl, fun sa H12 s0 s1' R12 o12 => ?_⟩
              obtain ⟨sp, rfl⟩ := Int.eq_ofNat_of_zero_le s0
              have N12 := N.draw o12 R12
              obtain ⟨asr, hc, hT⟩ := id N12.ls
              refine ⟨sp, rfl, c, _, rfl, SqL.of hc, fun S nS => ?_⟩
              rw [cutTake, ← List.map_take] at *
              have kS := same_upd (o := .lst ((asr.take sp).map V.ref)) nS
              obtain ⟨_, _, _, hrr, _⟩ := id R12
              obtain ⟨vs, hp, _⟩ := id N12.cb
              have N13' := N12.same kS
              have N13 : Now H2 (upd H12 S (.lst ((asr.take sp).map V.ref))) r p S (4102 + 3 * (t + 1)) (1 + k) cbs (es.take sp) :=
                { N13'.mono (by omega) with ls := ⟨_, upd_same, (hT.same kS).take sp⟩, val := N.val.take sp, len := by rw [List.length_take]; omega, key := fun e h => N.key e (List.mem_of_mem_take h), tick := fun e h => N.tick e (List.mem_of_mem_take h), cr := (ne_of_none hrr nS).symm, cp := (ne_of_none hp nS).symm }
              refine ⟨_, rfl, _, rfl, _, rfl, p, S, cbs, ((1 + k : Nat) : Int), _, rfl, by omega, by omega, N13.cb, N13.ok, N13.rc, N13.small (by omega), fun H14 s14 => ⟨_, rfl, iteF ?_⟩⟩
              exact ⟨S, cbs, _, _, _, _, _, rfl, N13.same s14⟩
          · obtain ⟨c, cbs, es, z5, z7, z8, z9, rfl, N⟩ := h
            exact ⟨s1.trans (Same.off s2 nr N.off), _, _, _, _, _, _, _, _, _, rfl⟩
    · obtain ⟨s1, y1, y2, y3, y4, y5, y6, y7, y8, y9, rfl⟩ := p
      refine ⟨Nat.zero_le _, fun A1 n1 => ⟨Nat.zero_le _, fun A2 n2 => ?_⟩⟩
      have k2 := same_upd (o := .lst []) n2
      refine ⟨A1, A2, [], 1, [], rfl, by decide, by decide, ⟨[], k2 _ _ upd_same, rfl, fun i v cb h => by simp at h⟩, CbsOk.nil _, ⟨⟨[], upd_same, Tups.nil⟩, Valid.nil, by decide, fun e h => by simp at h⟩, fun H3 p r as s3 np ll due _ => ?_⟩
      have er := Due.uniq due (.fin (Nat.zero_le _))
      subst er
      refine ⟨Nat.zero_le _, fun A3 n3 => ?_⟩
      have k3 := same_upd (o := .lst []) n3
      exact ⟨_, .list [], (ll.same k3).dp, .lst (SqL.of upd_same) .nil, rfl, rfl, q _⟩
end
end K24

set_option Elab.async false
set_option linter.all false
set_option maxRecDepth 100000
set_option maxHeartbeats 8000000
namespace K24
open PySem PySem.Spec PyProof.Rows L2 Gd Rm
theorem at_mk {K : PySem.W.Frag} {h : Heap} {mg : Str → Option Value} {x : Str} {st : Stmt} {ps : List Str} {f : Addr} {od an : Option Addr} {sl : Array (Option Value)} {oc kV dc pm cd ct : Value} (X : K.In h) (G : h.Ns mainGlobals mg)
    (a : PySem.W.nsIn K mainGlobals x = some (some (.ref f))) (l : K.lookup f = some ⟨oc, od, .func (PySem.W.fnOf x x (defArgs st) (defBody st) (defScope st) .none kV dc pm an cd ct), sl⟩) (c : PySem.W.codeIn K cd x = true) (k : PySem.W.keepIn K (.ref f) = true)
    (hb : ∀ (kV doc pm : Value) (an : Option Addr) (cdv ct : Value) (us : List Value), us.length = ps.length → bindArgs (PySem.W.fnOf x x (defArgs st) (defBody st) (defScope st) .none kV doc pm an cdv ct) ⟨us, []⟩ = pure (ps.zip us)) : At K mg x st ps :=
  ⟨_, _, fun_mk l c k, PySem.W.mg_of X G a, (fun_mk l c k).binds hb⟩
theorem all_mk {l : PySem.W.OpenLaw} {w : World} {K : PySem.W.Frag} {h : Heap} {mg : Str → Option Value} {fa : Addr} (X : K.In h) (G : h.Ns mainGlobals mg) (hfa : mg "law" = some (.ref fa))
    {f0 : Addr} {od0 an0 : Option Addr} {sl0 : Array (Option Value)} {oc0 kV0 dc0 pm0 cd0 ct0 : Value}
    {f1 : Addr} {od1 an1 : Option Addr} {sl1 : Array (Option Value)} {oc1 kV1 dc1 pm1 cd1 ct1 : Value}
    {f2 : Addr} {od2 an2 : Option Addr} {sl2 : Array (Option Value)} {oc2 kV2 dc2 pm2 cd2 ct2 : Value}
    {f3 : Addr} {od3 an3 : Option Addr} {sl3 : Array (Option Value)} {oc3 kV3 dc3 pm3 cd3 ct3 : Value}
    {f4 : Addr} {od4 an4 : Option Addr} {sl4 : Array (Option Value)} {oc4 kV4 dc4 pm4 cd4 ct4 : Value}
    {f5 : Addr} {od5 an5 : Option Addr} {sl5 : Array (Option Value)} {oc5 kV5 dc5 pm5 cd5 ct5 : Value}
    {f6 : Addr} {od6 an6 : Option Addr} {sl6 : Array (Option Value)} {oc6 kV6 dc6 pm6 cd6 ct6 : Value}
    {f7 : Addr} {od7 an7 : Option Addr} {sl7 : Array (Option Value)} {oc7 kV7 dc7 pm7 cd7 ct7 : Value}
    {f8 : Addr} {od8 an8 : Option Addr} {sl8 : Array (Option Value)} {oc8 kV8 dc8 pm8 cd8 ct8 : Value}
    {T8 : Addr} {td8 : Option Addr} {ts8 : Array (Option Value)} {tn8 : Nat}
    {f9 : Addr} {od9 an9 : Option Addr} {sl9 : Array (Option Value)} {oc9 kV9 dc9 pm9 cd9 ct9 : Value}
    {f10 : Addr} {od10 an10 : Option Addr} {sl10 : Array (Option Value)} {oc10 kV10 dc10 pm10 cd10 ct10 : Value}
    {f11 : Addr} {od11 an11 : Option Addr} {sl11 : Array (Option Value)} {oc11 kV11 dc11 pm11 cd11 ct11 : Value}
    {f12 : Addr} {od12 an12 : Option Addr} {sl12 : Array (Option Value)} {oc12 kV12 dc12 pm12 cd12 ct12 : Value}
    {f13 : Addr} {od13 an13 : Option Addr} {sl13 : Array (Option Value)} {oc13 kV13 dc13 pm13 cd13 ct13 : Value}
    {f14 : Addr} {od14 an14 : Option Addr} {sl14 : Array (Option Value)} {oc14 kV14 dc14 pm14 cd14 ct14 : Value}
    {f15 : Addr} {od15 an15 : Option Addr} {sl15 : Array (Option Value)} {oc15 kV15 dc15 pm15 cd15 ct15 : Value}
    {f16 : Addr} {od16 an16 : Option Addr} {sl16 : Array (Option Value)} {oc16 kV16 dc16 pm16 cd16 ct16 : Value}
    {f17 : Addr} {od17 an17 : Option Addr} {sl17 : Array (Option Value)} {oc17 kV17 dc17 pm17 cd17 ct17 : Value}
    {f18 : Addr} {od18 an18 : Option Addr} {sl18 : Array (Option Value)} {oc18 kV18 dc18 pm18 cd18 ct18 : Value}
    {f19 : Addr} {od19 an19 : Option Addr} {sl19 : Array (Option Value)} {oc19 kV19 dc19 pm19 cd19 ct19 : Value}
    {f20 : Addr} {od20 an20 : Option Addr} {sl20 : Array (Option Value)} {oc20 kV20 dc20 pm20 cd20 ct20 : Value}
    {f21 : Addr} {od21 an21 : Option Addr} {sl21 : Array (Option Value)} {oc21 kV21 dc21 pm21 cd21 ct21 : Value}
    {f22 : Addr} {od22 an22 : Option Addr} {sl22 : Array (Option Value)} {oc22 kV22 dc22 pm22 cd22 ct22 : Value}
    {f23 : Addr} {od23 an23 : Option Addr} {sl23 : Array (Option Value)} {oc23 kV23 dc23 pm23 cd23 ct23 : Value}
    {f24 : Addr} {od24 an24 : Option Addr} {sl24 : Array (Option Value)} {oc24 kV24 dc24 pm24 cd24 ct24 : Value}
    {f25 : Addr} {od25 an25 : Option Addr} {sl25 : Array (Option Value)} {oc25 kV25 dc25 pm25 cd25 ct25 : Value}
    {f26 : Addr} {od26 an26 : Option Addr} {sl26 : Array (Option Value)} {oc26 kV26 dc26 pm26 cd26 ct26 : Value}
    {f27 : Addr} {od27 an27 : Option Addr} {sl27 : Array (Option Value)} {oc27 kV27 dc27 pm27 cd27 ct27 : Value}
    {tk0 : Tok}
    {tk1 : Tok}
    {tk2 : Tok}
    {tk3 : Tok}
    {tk4 : Tok}
    {tk5 : Tok}
    (a0 : PySem.W.nsIn K mainGlobals "is_an_integer" = some (some (.ref f0))) (l0 : K.lookup f0 = some ⟨oc0, od0, .func (PySem.W.fnOf "is_an_integer" "is_an_integer" (defArgs s_is_an_integer) (defBody s_is_an_integer) (defScope s_is_an_integer) .none kV0 dc0 pm0 an0 cd0 ct0), sl0⟩) (c0 : PySem.W.codeIn K cd0 "is_an_integer" = true) (k0 : PySem.W.keepIn K (.ref f0) = true)
    (a1 : PySem.W.nsIn K mainGlobals "is_between" = some (some (.ref f1))) (l1 : K.lookup f1 = some ⟨oc1, od1, .func (PySem.W.fnOf "is_between" "is_between" (defArgs s_is_between) (defBody s_is_between) (defScope s_is_between) .none kV1 dc1 pm1 an1 cd1 ct1), sl1⟩) (c1 : PySem.W.codeIn K cd1 "is_between" = true) (k1 : PySem.W.keepIn K (.ref f1) = true)
    (a2 : PySem.W.nsIn K mainGlobals "is_step" = some (some (.ref f2))) (l2 : K.lookup f2 = some ⟨oc2, od2, .func (PySem.W.fnOf "is_step" "is_step" (defArgs s_is_step) (defBody s_is_step) (defScope s_is_step) .none kV2 dc2 pm2 an2 cd2 ct2), sl2⟩) (c2 : PySem.W.codeIn K cd2 "is_step" = true) (k2 : PySem.W.keepIn K (.ref f2) = true)
    (a3 : PySem.W.nsIn K mainGlobals "is_event" = some (some (.ref f3))) (l3 : K.lookup f3 = some ⟨oc3, od3, .func (PySem.W.fnOf "is_event" "is_event" (defArgs s_is_event) (defBody s_is_event) (defScope s_is_event) .none kV3 dc3 pm3 an3 cd3 ct3), sl3⟩) (c3 : PySem.W.codeIn K cd3 "is_event" = true) (k3 : PySem.W.keepIn K (.ref f3) = true)
    (a4 : PySem.W.nsIn K mainGlobals "is_short_list" = some (some (.ref f4))) (l4 : K.lookup f4 = some ⟨oc4, od4, .func (PySem.W.fnOf "is_short_list" "is_short_list" (defArgs s_is_short_list) (defBody s_is_short_list) (defScope s_is_short_list) .none kV4 dc4 pm4 an4 cd4 ct4), sl4⟩) (c4 : PySem.W.codeIn K cd4 "is_short_list" = true) (k4 : PySem.W.keepIn K (.ref f4) = true)
    (a5 : PySem.W.nsIn K mainGlobals "takes_turn" = some (some (.ref f5))) (l5 : K.lookup f5 = some ⟨oc5, od5, .func (PySem.W.fnOf "takes_turn" "takes_turn" (defArgs s_takes_turn) (defBody s_takes_turn) (defScope s_takes_turn) .none kV5 dc5 pm5 an5 cd5 ct5), sl5⟩) (c5 : PySem.W.codeIn K cd5 "takes_turn" = true) (k5 : PySem.W.keepIn K (.ref f5) = true)
    (a6 : PySem.W.nsIn K mainGlobals "can_follow" = some (some (.ref f6))) (l6 : K.lookup f6 = some ⟨oc6, od6, .func (PySem.W.fnOf "can_follow" "can_follow" (defArgs s_can_follow) (defBody s_can_follow) (defScope s_can_follow) .none kV6 dc6 pm6 an6 cd6 ct6), sl6⟩) (c6 : PySem.W.codeIn K cd6 "can_follow" = true) (k6 : PySem.W.keepIn K (.ref f6) = true)
    (a7 : PySem.W.nsIn K mainGlobals "is_below" = some (some (.ref f7))) (l7 : K.lookup f7 = some ⟨oc7, od7, .func (PySem.W.fnOf "is_below" "is_below" (defArgs s_is_below) (defBody s_is_below) (defScope s_is_below) .none kV7 dc7 pm7 an7 cd7 ct7), sl7⟩) (c7 : PySem.W.codeIn K cd7 "is_below" = true) (k7 : PySem.W.keepIn K (.ref f7) = true)
    (a8 : PySem.W.nsIn K mainGlobals "check_record" = some (some (.ref f8))) (l8 : K.lookup f8 = some ⟨oc8, od8, .func (PySem.W.fnOf "check_record" "check_record" (defArgs s_check_record) (defBody s_check_record) (defScope s_check_record) (.ref T8) kV8 dc8 pm8 an8 cd8 ct8), sl8⟩) (c8 : PySem.W.codeIn K cd8 "check_record" = true) (k8 : PySem.W.keepIn K (.ref f8) = true) (u_8 : K.lookup T8 = some ⟨.type "tuple", td8, .seq #[.none] tn8, ts8⟩)
    (a9 : PySem.W.nsIn K mainGlobals "is_code" = some (some (.ref f9))) (l9 : K.lookup f9 = some ⟨oc9, od9, .func (PySem.W.fnOf "is_code" "is_code" (defArgs s_is_code) (defBody s_is_code) (defScope s_is_code) .none kV9 dc9 pm9 an9 cd9 ct9), sl9⟩) (c9 : PySem.W.codeIn K cd9 "is_code" = true) (k9 : PySem.W.keepIn K (.ref f9) = true)
    (a10 : PySem.W.nsIn K mainGlobals "are_ascending" = some (some (.ref f10))) (l10 : K.lookup f10 = some ⟨oc10, od10, .func (PySem.W.fnOf "are_ascending" "are_ascending" (defArgs s_are_ascending) (defBody s_are_ascending) (defScope s_are_ascending) .none kV10 dc10 pm10 an10 cd10 ct10), sl10⟩) (c10 : PySem.W.codeIn K cd10 "are_ascending" = true) (k10 : PySem.W.keepIn K (.ref f10) = true)
    (a11 : PySem.W.nsIn K mainGlobals "are_combo_keys" = some (some (.ref f11))) (l11 : K.lookup f11 = some ⟨oc11, od11, .func (PySem.W.fnOf "are_combo_keys" "are_combo_keys" (defArgs s_are_combo_keys) (defBody s_are_combo_keys) (defScope s_are_combo_keys) .none kV11 dc11 pm11 an11 cd11 ct11), sl11⟩) (c11 : PySem.W.codeIn K cd11 "are_combo_keys" = true) (k11 : PySem.W.keepIn K (.ref f11) = true)
    (a12 : PySem.W.nsIn K mainGlobals "is_combo" = some (some (.ref f12))) (l12 : K.lookup f12 = some ⟨oc12, od12, .func (PySem.W.fnOf "is_combo" "is_combo" (defArgs s_is_combo) (defBody s_is_combo) (defScope s_is_combo) .none kV12 dc12 pm12 an12 cd12 ct12), sl12⟩) (c12 : PySem.W.codeIn K cd12 "is_combo" = true) (k12 : PySem.W.keepIn K (.ref f12) = true)
    (a13 : PySem.W.nsIn K mainGlobals "check_combos" = some (some (.ref f13))) (l13 : K.lookup f13 = some ⟨oc13, od13, .func (PySem.W.fnOf "check_combos" "check_combos" (defArgs s_check_combos) (defBody s_check_combos) (defScope s_check_combos) .none kV13 dc13 pm13 an13 cd13 ct13), sl13⟩) (c13 : PySem.W.codeIn K cd13 "check_combos" = true) (k13 : PySem.W.keepIn K (.ref f13) = true)
    (a14 : PySem.W.nsIn K mainGlobals "check_many" = some (some (.ref f14))) (l14 : K.lookup f14 = some ⟨oc14, od14, .func (PySem.W.fnOf "check_many" "check_many" (defArgs s_check_many) (defBody s_check_many) (defScope s_check_many) .none kV14 dc14 pm14 an14 cd14 ct14), sl14⟩) (c14 : PySem.W.codeIn K cd14 "check_many" = true) (k14 : PySem.W.keepIn K (.ref f14) = true)
    (a15 : PySem.W.nsIn K mainGlobals "check_gate" = some (some (.ref f15))) (l15 : K.lookup f15 = some ⟨oc15, od15, .func (PySem.W.fnOf "check_gate" "check_gate" (defArgs s_check_gate) (defBody s_check_gate) (defScope s_check_gate) .none kV15 dc15 pm15 an15 cd15 ct15), sl15⟩) (c15 : PySem.W.codeIn K cd15 "check_gate" = true) (k15 : PySem.W.keepIn K (.ref f15) = true)
    (a16 : PySem.W.nsIn K mainGlobals "first_piece" = some (some (.ref f16))) (l16 : K.lookup f16 = some ⟨oc16, od16, .func (PySem.W.fnOf "first_piece" "first_piece" (defArgs s_first_piece) (defBody s_first_piece) (defScope s_first_piece) .none kV16 dc16 pm16 an16 cd16 ct16), sl16⟩) (c16 : PySem.W.codeIn K cd16 "first_piece" = true) (k16 : PySem.W.keepIn K (.ref f16) = true)
    (a17 : PySem.W.nsIn K mainGlobals "cut" = some (some (.ref f17))) (l17 : K.lookup f17 = some ⟨oc17, od17, .func (PySem.W.fnOf "cut" "cut" (defArgs s_cut) (defBody s_cut) (defScope s_cut) .none kV17 dc17 pm17 an17 cd17 ct17), sl17⟩) (c17 : PySem.W.codeIn K cd17 "cut" = true) (k17 : PySem.W.keepIn K (.ref f17) = true)
    (a18 : PySem.W.nsIn K mainGlobals "pieces" = some (some (.ref f18))) (l18 : K.lookup f18 = some ⟨oc18, od18, .func (PySem.W.fnOf "pieces" "pieces" (defArgs s_pieces) (defBody s_pieces) (defScope s_pieces) .none kV18 dc18 pm18 an18 cd18 ct18), sl18⟩) (c18 : PySem.W.codeIn K cd18 "pieces" = true) (k18 : PySem.W.keepIn K (.ref f18) = true)
    (a19 : PySem.W.nsIn K mainGlobals "_law_spring" = some (some (.ref f19))) (l19 : K.lookup f19 = some ⟨oc19, od19, .func (PySem.W.fnOf "_law_spring" "_law_spring" (defArgs s__law_spring) (defBody s__law_spring) (defScope s__law_spring) .none kV19 dc19 pm19 an19 cd19 ct19), sl19⟩) (c19 : PySem.W.codeIn K cd19 "_law_spring" = true) (k19 : PySem.W.keepIn K (.ref f19) = true)
    (a20 : PySem.W.nsIn K mainGlobals "_law_take" = some (some (.ref f20))) (l20 : K.lookup f20 = some ⟨oc20, od20, .func (PySem.W.fnOf "_law_take" "_law_take" (defArgs s__law_take) (defBody s__law_take) (defScope s__law_take) .none kV20 dc20 pm20 an20 cd20 ct20), sl20⟩) (c20 : PySem.W.codeIn K cd20 "_law_take" = true) (k20 : PySem.W.keepIn K (.ref f20) = true)
    (a21 : PySem.W.nsIn K mainGlobals "_law_combos" = some (some (.ref f21))) (l21 : K.lookup f21 = some ⟨oc21, od21, .func (PySem.W.fnOf "_law_combos" "_law_combos" (defArgs s__law_combos) (defBody s__law_combos) (defScope s__law_combos) .none kV21 dc21 pm21 an21 cd21 ct21), sl21⟩) (c21 : PySem.W.codeIn K cd21 "_law_combos" = true) (k21 : PySem.W.keepIn K (.ref f21) = true)
    (a22 : PySem.W.nsIn K mainGlobals "_law_space" = some (some (.ref f22))) (l22 : K.lookup f22 = some ⟨oc22, od22, .func (PySem.W.fnOf "_law_space" "_law_space" (defArgs s__law_space) (defBody s__law_space) (defScope s__law_space) .none kV22 dc22 pm22 an22 cd22 ct22), sl22⟩) (c22 : PySem.W.codeIn K cd22 "_law_space" = true) (k22 : PySem.W.keepIn K (.ref f22) = true)
    (a23 : PySem.W.nsIn K mainGlobals "_law_presses" = some (some (.ref f23))) (l23 : K.lookup f23 = some ⟨oc23, od23, .func (PySem.W.fnOf "_law_presses" "_law_presses" (defArgs s__law_presses) (defBody s__law_presses) (defScope s__law_presses) .none kV23 dc23 pm23 an23 cd23 ct23), sl23⟩) (c23 : PySem.W.codeIn K cd23 "_law_presses" = true) (k23 : PySem.W.keepIn K (.ref f23) = true)
    (a24 : PySem.W.nsIn K mainGlobals "_law_cut" = some (some (.ref f24))) (l24 : K.lookup f24 = some ⟨oc24, od24, .func (PySem.W.fnOf "_law_cut" "_law_cut" (defArgs s__law_cut) (defBody s__law_cut) (defScope s__law_cut) .none kV24 dc24 pm24 an24 cd24 ct24), sl24⟩) (c24 : PySem.W.codeIn K cd24 "_law_cut" = true) (k24 : PySem.W.keepIn K (.ref f24) = true)
    (a25 : PySem.W.nsIn K mainGlobals "_law_due" = some (some (.ref f25))) (l25 : K.lookup f25 = some ⟨oc25, od25, .func (PySem.W.fnOf "_law_due" "_law_due" (defArgs s__law_due) (defBody s__law_due) (defScope s__law_due) .none kV25 dc25 pm25 an25 cd25 ct25), sl25⟩) (c25 : PySem.W.codeIn K cd25 "_law_due" = true) (k25 : PySem.W.keepIn K (.ref f25) = true)
    (a26 : PySem.W.nsIn K mainGlobals "_law_right" = some (some (.ref f26))) (l26 : K.lookup f26 = some ⟨oc26, od26, .func (PySem.W.fnOf "_law_right" "_law_right" (defArgs s__law_right) (defBody s__law_right) (defScope s__law_right) .none kV26 dc26 pm26 an26 cd26 ct26), sl26⟩) (c26 : PySem.W.codeIn K cd26 "_law_right" = true) (k26 : PySem.W.keepIn K (.ref f26) = true)
    (a27 : PySem.W.nsIn K mainGlobals "law" = some (some (.ref f27))) (l27 : K.lookup f27 = some ⟨oc27, od27, .func (PySem.W.fnOf "law" "law" (defArgs s_law) (defBody s_law) (defScope s_law) .none kV27 dc27 pm27 an27 cd27 ct27), sl27⟩) (c27 : PySem.W.codeIn K cd27 "law" = true) (k27 : PySem.W.keepIn K (.ref f27) = true)
    (v0 : PySem.W.nsIn K mainGlobals "MOST_EVENTS" = some (some (.int 400 tk0)))
    (v1 : PySem.W.nsIn K mainGlobals "MOST_SIGNS" = some (some (.int 8 tk1)))
    (v2 : PySem.W.nsIn K mainGlobals "CODE_SIGNS" = some (some (.str "abcdefghijklmnopqrstuvwxyz0123456789" tk2)))
    (v3 : PySem.W.nsIn K mainGlobals "GREATEST_COMBO_TIME" = some (some (.int 1000000000 tk3)))
    (v4 : PySem.W.nsIn K mainGlobals "MOST_COMBOS" = some (some (.int 6 tk4)))
    (v5 : PySem.W.nsIn K mainGlobals "MOST_BOARD_KEYS" = some (some (.int 10 tk5)))
    (z0 : PySem.W.nsIn K mainGlobals "len" = some none)
    (z1 : PySem.W.nsIn K mainGlobals "max" = some none)
    (z2 : PySem.W.nsIn K mainGlobals "min" = some none)
    (z3 : PySem.W.nsIn K mainGlobals "repr" = some none)
    (z4 : PySem.W.nsIn K mainGlobals "isinstance" = some none)
    (z5 : PySem.W.nsIn K mainGlobals "all" = some none)
    (z6 : PySem.W.nsIn K mainGlobals "list" = some none)
    (z7 : PySem.W.nsIn K mainGlobals "tuple" = some none)
    (z8 : PySem.W.nsIn K mainGlobals "int" = some none)
    (z9 : PySem.W.nsIn K mainGlobals "bool" = some none)
    (z10 : PySem.W.nsIn K mainGlobals "str" = some none)
    (z11 : PySem.W.nsIn K mainGlobals "range" = some none)
    (z12 : PySem.W.nsIn K mainGlobals "enumerate" = some none)
    (z13 : PySem.W.nsIn K mainGlobals "sorted" = some none) :
    ∃ fd : FuncData, (∀ (s : Shared) (u : Value), BindsTo s fd ⟨[u], []⟩ [("_law_script", u)]) ∧ ∀ base : Heap, K.In base → base.Ns mainGlobals mg → FnG l.prog w K mg base 10 fa fd ["_law_script"] (spLaw K) := by
  have e := hfa.symm.trans (PySem.W.mg_of X G a27)
  cases e
  have A_is_an_integer : At K mg "is_an_integer" s_is_an_integer ["value"] := at_mk X G a0 l0 c0 k0 fun _ _ _ _ _ _ us hl => match us, hl with | [_], _ => rfl
  have A_is_between : At K mg "is_between" s_is_between ["value", "low", "high"] := at_mk X G a1 l1 c1 k1 fun _ _ _ _ _ _ us hl => match us, hl with | [_, _, _], _ => rfl
  have A_is_step : At K mg "is_step" s_is_step ["value"] := at_mk X G a2 l2 c2 k2 fun _ _ _ _ _ _ us hl => match us, hl with | [_], _ => rfl
  have A_is_event : At K mg "is_event" s_is_event ["value"] := at_mk X G a3 l3 c3 k3 fun _ _ _ _ _ _ us hl => match us, hl with | [_], _ => rfl
  have A_is_short_list : At K mg "is_short_list" s_is_short_list ["value"] := at_mk X G a4 l4 c4 k4 fun _ _ _ _ _ _ us hl => match us, hl with | [_], _ => rfl
  have A_takes_turn : At K mg "takes_turn" s_takes_turn ["held", "key", "way"] := at_mk X G a5 l5 c5 k5 fun _ _ _ _ _ _ us hl => match us, hl with | [_, _, _], _ => rfl
  have A_can_follow : At K mg "can_follow" s_can_follow ["event", "last", "held"] := at_mk X G a6 l6 c6 k6 fun _ _ _ _ _ _ us hl => match us, hl with | [_, _, _], _ => rfl
  have A_is_below : At K mg "is_below" s_is_below ["key", "many"] := at_mk X G a7 l7 c7 k7 fun _ _ _ _ _ _ us hl => match us, hl with | [_, _], _ => rfl
  have A_check_record : AtX K mg "check_record" s_check_record ["value", "many"] [] := atX_all X G a8 l8 c8 k8 u_8 fun _ _ _ _ _ _ _ us its hl hi => match us, its, hl, hi with | [_, _], [_], _, _ => ⟨_, rfl, rfl⟩
  have A_is_code : At K mg "is_code" s_is_code ["value"] := at_mk X G a9 l9 c9 k9 fun _ _ _ _ _ _ us hl => match us, hl with | [_], _ => rfl
  have A_are_ascending : At K mg "are_ascending" s_are_ascending ["values", "many"] := at_mk X G a10 l10 c10 k10 fun _ _ _ _ _ _ us hl => match us, hl with | [_, _], _ => rfl
  have A_are_combo_keys : At K mg "are_combo_keys" s_are_combo_keys ["value", "many"] := at_mk X G a11 l11 c11 k11 fun _ _ _ _ _ _ us hl => match us, hl with | [_, _], _ => rfl
  have A_is_combo : At K mg "is_combo" s_is_combo ["value", "many"] := at_mk X G a12 l12 c12 k12 fun _ _ _ _ _ _ us hl => match us, hl with | [_, _], _ => rfl
  have A_check_combos : At K mg "check_combos" s_check_combos ["value", "many"] := at_mk X G a13 l13 c13 k13 fun _ _ _ _ _ _ us hl => match us, hl with | [_, _], _ => rfl
  have A_check_many : At K mg "check_many" s_check_many ["many"] := at_mk X G a14 l14 c14 k14 fun _ _ _ _ _ _ us hl => match us, hl with | [_], _ => rfl
  have A_check_gate : At K mg "check_gate" s_check_gate ["many", "combos", "record"] := at_mk X G a15 l15 c15 k15 fun _ _ _ _ _ _ us hl => match us, hl with | [_, _, _], _ => rfl
  have A_first_piece : At K mg "first_piece" s_first_piece ["downs", "combos"] := at_mk X G a16 l16 c16 k16 fun _ _ _ _ _ _ us hl => match us, hl with | [_, _], _ => rfl
  have A_cut : At K mg "cut" s_cut ["record", "numbers", "combos"] := at_mk X G a17 l17 c17 k17 fun _ _ _ _ _ _ us hl => match us, hl with | [_, _, _], _ => rfl
  have A_pieces : At K mg "pieces" s_pieces ["many", "combos", "record"] := at_mk X G a18 l18 c18 k18 fun _ _ _ _ _ _ us hl => match us, hl with | [_, _, _], _ => rfl
  have A__law_spring : At K mg "_law_spring" s__law_spring ["_law_script", "_law_k"] := at_mk X G a19 l19 c19 k19 fun _ _ _ _ _ _ us hl => match us, hl with | [_, _], _ => rfl
  have A__law_take : At K mg "_law_take" s__law_take ["_law_spring_here", "_law_many"] := at_mk X G a20 l20 c20 k20 fun _ _ _ _ _ _ us hl => match us, hl with | [_, _], _ => rfl
  have A__law_combos : At K mg "_law_combos" s__law_combos ["_law_spring_here", "_law_many", "_law_top"] := at_mk X G a21 l21 c21 k21 fun _ _ _ _ _ _ us hl => match us, hl with | [_, _, _], _ => rfl
  have A__law_space : At K mg "_law_space" s__law_space ["_law_spring_here", "_law_times"] := at_mk X G a22 l22 c22 k22 fun _ _ _ _ _ _ us hl => match us, hl with | [_, _], _ => rfl
  have A__law_presses : At K mg "_law_presses" s__law_presses ["_law_spring_here", "_law_many", "_law_events", "_law_times"] := at_mk X G a23 l23 c23 k23 fun _ _ _ _ _ _ us hl => match us, hl with | [_, _, _, _], _ => rfl
  have A__law_cut : At K mg "_law_cut" s__law_cut ["_law_combos_here", "_law_downs"] := at_mk X G a24 l24 c24 k24 fun _ _ _ _ _ _ us hl => match us, hl with | [_, _], _ => rfl
  have A__law_due : At K mg "_law_due" s__law_due ["_law_combos_here", "_law_record"] := at_mk X G a25 l25 c25 k25 fun _ _ _ _ _ _ us hl => match us, hl with | [_, _], _ => rfl
  have A__law_right : At K mg "_law_right" s__law_right ["_law_many", "_law_combos_here", "_law_record"] := at_mk X G a26 l26 c26 k26 fun _ _ _ _ _ _ us hl => match us, hl with | [_, _, _], _ => rfl
  have A_law : At K mg "law" s_law ["_law_script"] := at_mk X G a27 l27 c27 k27 fun _ _ _ _ _ _ us hl => match us, hl with | [_], _ => rfl
  have m_MOST_EVENTS := PySem.W.mg_of X G v0
  have m_MOST_SIGNS := PySem.W.mg_of X G v1
  have m_CODE_SIGNS := PySem.W.mg_of X G v2
  have m_GREATEST_COMBO_TIME := PySem.W.mg_of X G v3
  have m_MOST_COMBOS := PySem.W.mg_of X G v4
  have m_MOST_BOARD_KEYS := PySem.W.mg_of X G v5
  have bt : Bt mg := ⟨PySem.W.mg_none_of X G z0, PySem.W.mg_none_of X G z1, PySem.W.mg_none_of X G z2, PySem.W.mg_none_of X G z3, PySem.W.mg_none_of X G z4, PySem.W.mg_none_of X G z5, PySem.W.mg_none_of X G z6, PySem.W.mg_none_of X G z7, PySem.W.mg_none_of X G z8, PySem.W.mg_none_of X G z9, PySem.W.mg_none_of X G z10, PySem.W.mg_none_of X G z11, PySem.W.mg_none_of X G z12, PySem.W.mg_none_of X G z13⟩
  refine ⟨PySem.W.fnOf "law" "law" (defArgs s_law) (defBody s_law) (defScope s_law) .none kV27 dc27 pm27 an27 cd27 ct27, fun s u => .of_eq rfl, fun base _ _ => ?_⟩
  have C1 := ok_is_an_integer (P := l.prog) (w := w) (base := base) bt A_is_an_integer
  have C2 := ok_is_between A_is_between C1
  have C3 := ok_is_step bt A_is_step C1
  have C4 := ok_is_event bt A_is_event C1 C3
  have C5 := ok_is_short_list (P := l.prog) (w := w) (base := base) bt _ m_MOST_EVENTS A_is_short_list
  have C6 := ok_takes_turn (P := l.prog) (w := w) (base := base) A_takes_turn
  have C7 := ok_is_below (P := l.prog) (w := w) (base := base) A_is_below
  have C6b := ok_can_follow A_can_follow C6
  have C8 := ok_check_record bt A_check_record C5 C4 C6b C7
  have C9 := ok_is_code (P := l.prog) (w := w) (base := base) bt m_MOST_SIGNS m_CODE_SIGNS A_is_code
  have C10a := ok_are_ascending bt A_are_ascending C2
  have C10 := ok_are_combo_keys bt A_are_combo_keys C10a
  have C11 := ok_is_combo bt m_GREATEST_COMBO_TIME A_is_combo C2 C9 C10
  have C12 := ok_check_combos bt m_MOST_COMBOS A_check_combos C11
  have C13 := ok_check_many m_MOST_BOARD_KEYS A_check_many C2
  have C14 := ok_check_gate A_check_gate C13 C12 C8
  have C15 := ok_first_piece (P := l.prog) (w := w) (base := base) bt A_first_piece
  have C16 := ok_cut bt A_cut C15
  have C17 := ok_pieces bt A_pieces C14 C16
  have D1 := ok__law_take (P := l.prog) (w := w) (base := base) A__law_take
  have D2 := ok__law_spring (P := l.prog) (w := w) (base := base) bt A__law_spring
  have D3 := ok__law_combos bt A__law_combos D1
  have D4 := ok__law_space bt A__law_space D1
  have D5 := ok__law_presses bt A__law_presses D1 D4
  have D6 := ok__law_cut (P := l.prog) (w := w) (base := base) bt A__law_cut
  have D7 := ok__law_due bt A__law_due D6
  have D8 := ok__law_right bt A__law_right D7 C17
  exact ok_law bt (fun_mk l27 c27 k27) D2 D1 D3 D5 D8 C17
end K24
open PySem PySem.W PyProof.Rows
set_option maxHeartbeats 0 in
theorem PySem.Challenge.cw_holdtap_k24_pieces_of_records_holds : PySem.Challenge.rw_holdtap_k24_pieces_of_records.Holds := by
  w_on; o_law; k_head; (case hw => w_witness2)
  k_fill
  refine Gd.walkG (l := PySem.Challenge.rw_holdtap_k24_pieces_of_records) (n := 63) (k := 10) (x := "_law_script") (sp := fun K => K24.spLaw K) rfl (by decide) rfl ⟨rfl, by decide, by decide⟩ (fun w h Y => PySem.W.kIn_of Y) ?F (fun _ _ a ns hl hS => ⟨a, ns, rfl, hS, hl, fun _ => rfl⟩)
  case F =>
    intro w mg fa h KX G hmg
    refine' K24.all_mk KX G hmg ?a0 ?l0 ?c0 ?k0 ?a1 ?l1 ?c1 ?k1 ?a2 ?l2 ?c2 ?k2 ?a3 ?l3 ?c3 ?k3 ?a4 ?l4 ?c4 ?k4 ?a5 ?l5 ?c5 ?k5 ?a6 ?l6 ?c6 ?k6 ?a7 ?l7 ?c7 ?k7 ?a8 ?l8 ?c8 ?k8 ?u_8 ?a9 ?l9 ?c9 ?k9 ?a10 ?l10 ?c10 ?k10 ?a11 ?l11 ?c11 ?k11 ?a12 ?l12 ?c12 ?k12 ?a13 ?l13 ?c13 ?k13 ?a14 ?l14 ?c14 ?k14 ?a15 ?l15 ?c15 ?k15 ?a16 ?l16 ?c16 ?k16 ?a17 ?l17 ?c17 ?k17 ?a18 ?l18 ?c18 ?k18 ?a19 ?l19 ?c19 ?k19 ?a20 ?l20 ?c20 ?k20 ?a21 ?l21 ?c21 ?k21 ?a22 ?l22 ?c22 ?k22 ?a23 ?l23 ?c23 ?k23 ?a24 ?l24 ?c24 ?k24 ?a25 ?l25 ?c25 ?k25 ?a26 ?l26 ?c26 ?k26 ?a27 ?l27 ?c27 ?k27 ?v0 ?v1 ?v2 ?v3 ?v4 ?v5 ?z0 ?z1 ?z2 ?z3 ?z4 ?z5 ?z6 ?z7 ?z8 ?z9 ?z10 ?z11 ?z12 ?z13
    (case a0 => k_is); (case l0 => k_is); (case c0 => k_is); (case k0 => k_is); (case a1 => k_is); (case l1 => k_is); (case c1 => k_is); (case k1 => k_is); (case a2 => k_is); (case l2 => k_is); (case c2 => k_is); (case k2 => k_is); (case a3 => k_is); (case l3 => k_is); (case c3 => k_is); (case k3 => k_is); (case a4 => k_is); (case l4 => k_is); (case c4 => k_is); (case k4 => k_is); (case a5 => k_is); (case l5 => k_is); (case c5 => k_is); (case k5 => k_is); (case a6 => k_is); (case l6 => k_is); (case c6 => k_is); (case k6 => k_is); (case a7 => k_is); (case l7 => k_is); (case c7 => k_is); (case k7 => k_is); (case a8 => k_is); (case l8 => k_is); (case c8 => k_is); (case k8 => k_is); (case u_8 => k_is); (case a9 => k_is); (case l9 => k_is); (case c9 => k_is); (case k9 => k_is); (case a10 => k_is); (case l10 => k_is); (case c10 => k_is); (case k10 => k_is); (case a11 => k_is); (case l11 => k_is); (case c11 => k_is); (case k11 => k_is); (case a12 => k_is); (case l12 => k_is); (case c12 => k_is); (case k12 => k_is); (case a13 => k_is); (case l13 => k_is); (case c13 => k_is); (case k13 => k_is); (case a14 => k_is); (case l14 => k_is); (case c14 => k_is); (case k14 => k_is); (case a15 => k_is); (case l15 => k_is); (case c15 => k_is); (case k15 => k_is); (case a16 => k_is); (case l16 => k_is); (case c16 => k_is); (case k16 => k_is); (case a17 => k_is); (case l17 => k_is); (case c17 => k_is); (case k17 => k_is); (case a18 => k_is); (case l18 => k_is); (case c18 => k_is); (case k18 => k_is); (case a19 => k_is); (case l19 => k_is); (case c19 => k_is); (case k19 => k_is); (case a20 => k_is); (case l20 => k_is); (case c20 => k_is); (case k20 => k_is); (case a21 => k_is); (case l21 => k_is); (case c21 => k_is); (case k21 => k_is); (case a22 => k_is); (case l22 => k_is); (case c22 => k_is); (case k22 => k_is); (case a23 => k_is); (case l23 => k_is); (case c23 => k_is); (case k23 => k_is); (case a24 => k_is); (case l24 => k_is); (case c24 => k_is); (case k24 => k_is); (case a25 => k_is); (case l25 => k_is); (case c25 => k_is); (case k25 => k_is); (case a26 => k_is); (case l26 => k_is); (case c26 => k_is); (case k26 => k_is); (case a27 => k_is); (case l27 => k_is); (case c27 => k_is); (case k27 => k_is); (case v0 => k_is); (case v1 => k_is); (case v2 => k_is); (case v3 => k_is); (case v4 => k_is); (case v5 => k_is); (case z0 => k_is); (case z1 => k_is); (case z2 => k_is); (case z3 => k_is); (case z4 => k_is); (case z5 => k_is); (case z6 => k_is); (case z7 => k_is); (case z8 => k_is); (case z9 => k_is); (case z10 => k_is); (case z11 => k_is); (case z12 => k_is); (case z13 => k_is)

