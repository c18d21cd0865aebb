import PyProof.Rows.All
import Wide.All
import OpenK.AllK
import Wide.FinOn
import HandS.ForMost
import HandS.ForExc
import HandS.IsInst
import HandS.EndBits
import HandS.Wide
import PyProof.ReprRoads
import HandS.AnyAll
import HandS.GenList
import HandS.Iter
import HandS.Style
import HandS.Defaults
import HandS.FStrTup
import HandS.TupAny
import HandS.More
import HandS.DictTup
import HandS.SortRule
import PyProof.NeKinds
import PySem.Challenge.RW_narrowplay_k01_polynomials_values_sums_a
import HandS.Words
import KE.KxText
import HandS.Walk
import KE.KNestM
set_option Elab.async false
set_option linter.all false
set_option maxRecDepth 100000
set_option maxHeartbeats 2000000
/-! Z0: data values of any depth as they stand in the abstract heap, and repr of them. -/
namespace Zk
open PySem PySem.Spec PyProof.Rows L2

def keyD : Key → PyData
  | .inl i => .int i
  | .inr x => .str x

mutual
/-- v is, in H, the data d -/
inductive Sd (H : Hp) : V → PyData → Prop
  | non : Sd H .non .none
  | bl (b : Bool) : Sd H (.bl b) (.bool b)
  | int (i : Int) : Sd H (.int i) (.int i)
  | str (x : Str) : Sd H (.str x) (.str x)
  | lst {a : Addr} {xs : List V} {ds : List PyData} : H a = some (.lst xs) → SdL H xs ds → Sd H (.ref a) (.list ds)
  | tup {a : Addr} {xs : List V} {ds : List PyData} : H a = some (.tup xs) → SdL H xs ds → Sd H (.ref a) (.tuple ds)
  | dic {a : Addr} {kvs : List (Key × V)} {es : List (PyData × PyData)} : H a = some (.dK kvs) → SdK H kvs es → Sd H (.ref a) (.dict es)
inductive SdL (H : Hp) : List V → List PyData → Prop
  | nil : SdL H [] []
  | cons {v : V} {vs : List V} {d : PyData} {ds : List PyData} : Sd H v d → SdL H vs ds → SdL H (v :: vs) (d :: ds)
inductive SdK (H : Hp) : List (Key × V) → List (PyData × PyData) → Prop
  | nil : SdK H [] []
  | cons {k : Key} {v : V} {kvs : List (Key × V)} {d : PyData} {es : List (PyData × PyData)} : Sd H v d → SdK H kvs es → SdK H ((k, v) :: kvs) ((keyD k, d) :: es)
end

mutual
theorem Sd.same {H H' : Hp} (e : Same H H') : ∀ {v : V} {d : PyData}, Sd H v d → Sd H' v d
  | _, _, .non => .non
  | _, _, .bl b => .bl b
  | _, _, .int i => .int i
  | _, _, .str x => .str x
  | _, _, .lst h t => .lst (e _ _ h) (SdL.same e t)
  | _, _, .tup h t => .tup (e _ _ h) (SdL.same e t)
  | _, _, .dic h t => .dic (e _ _ h) (SdK.same e t)
theorem SdL.same {H H' : Hp} (e : Same H H') : ∀ {vs : List V} {ds : List PyData}, SdL H vs ds → SdL H' vs ds
  | _, _, .nil => .nil
  | _, _, .cons h t => .cons (Sd.same e h) (SdL.same e t)
theorem SdK.same {H H' : Hp} (e : Same H H') : ∀ {ks : List (Key × V)} {es : List (PyData × PyData)}, SdK H ks es → SdK H' ks es
  | _, _, .nil => .nil
  | _, _, .cons h t => .cons (Sd.same e h) (SdK.same e t)
end
theorem SdL.len {H : Hp} : ∀ {vs : List V} {ds : List PyData}, SdL H vs ds → vs.length = ds.length
  | _, _, .nil => rfl
  | _, _, .cons _ t => congrArg Nat.succ t.len
theorem SdL.app {H : Hp} : ∀ {vs ws : List V} {ds es : List PyData}, SdL H vs ds → SdL H ws es → SdL H (vs ++ ws) (ds ++ es)
  | _, _, _, _, .nil, t => t
  | _, _, _, _, .cons h s, t => .cons h (s.app t)
theorem SdL.get {H : Hp} : ∀ {vs : List V} {ds : List PyData} {i : Nat} {v : V}, SdL H vs ds → vs[i]? = some v → ∃ d, ds[i]? = some d ∧ Sd H v d
  | _, _, _, _, .nil, e => by simp at e
  | _, _, 0, _, .cons h _, e => by
    simp at e
    subst e
    exact ⟨_, rfl, h⟩
  | _, _, i + 1, v, .cons _ t, e => by
    obtain ⟨d, h1, h2⟩ := SdL.get (i := i) (v := v) t (by simpa using e)
    exact ⟨d, by simpa using h1, h2⟩

/-! ### reading it off the real heap -/
/-- the table of modules stood there ahead of all -/
def SysB (base : Heap) : Prop := ∃ ob, base.get? sysModules = some ob
section
variable {X : Cx} {pins : List (Addr × Obj)} {σ : List (Option V)} {H : Hp} {s : Shared}
theorem sys_ne (I : Inv X pins σ H s) (S : SysB X.base) {a : Addr} {o : HO} (h : H a = some o) : sysModules ≠ a := by
  obtain ⟨ob, hb⟩ := S
  intro e
  have q := (I.bs sysModules ob hb).2
  rw [e, h] at q
  cases q
theorem sdk_keys {P : Program} {w : World} {h : Heap} : ∀ {kvs : List (Key × V)} {vs : List (Key × Value)} {es : List DictEntry} {ds : List (PyData × PyData)} {H : Hp},
    KV kvs vs → Pairs (mixKind P w) es vs → SdK H kvs ds → ∃ as, ReadsAll h (es.map (·.key)) (ds.map (·.1)) as ∧ sysModules ∉ as
  | _, _, _, _, _, .nil, .nil, .nil => ⟨[], .nil, by simp⟩
  | (k, v) :: kvs, _, _, _, _, .cons r t, .cons h1 h2 h3, .cons hd tl => by
    obtain ⟨as, q, nq⟩ := sdk_keys t h3 tl
    obtain ⟨e, _⟩ := r
    have e : k = _ := e
    rw [← e] at h1
    rcases keyIs_shape (show keyIs k _ = true from h1) with ⟨i, u, rfl, e2⟩ | ⟨x, u, rfl, e2⟩
    · have z : Reads h (DictEntry.key _) (.int i) [] := e2 ▸ Reads.int i u
      exact ⟨_, .cons z q, by simpa using nq⟩
    · have z : Reads h (DictEntry.key _) (.str x) [] := e2 ▸ Reads.str x u
      exact ⟨_, .cons z q, by simpa using nq⟩
mutual
theorem Sd.reads (I : Inv X pins σ H s) (S : SysB X.base) : ∀ {v : V} {d : PyData} {u : Value}, Sd H v d → RelV v u → ∃ as, Reads s.heap u d as ∧ sysModules ∉ as
  | _, _, _, .non, r => by
    cases r
    exact ⟨_, .none, by simp⟩
  | _, _, _, .bl b, r => by
    cases r
    exact ⟨_, .bool b, by simp⟩
  | _, _, _, .int i, r => by
    obtain ⟨t, rfl⟩ := r
    exact ⟨_, .int i t, by simp⟩
  | _, _, _, .str x, r => by
    obtain ⟨t, rfl⟩ := r
    exact ⟨_, .str x t, by simp⟩
  | _, _, _, .lst h t, r => by
    cases r
    obtain ⟨_, its, n, rv, ho⟩ := I.hok _ _ h
    obtain ⟨as, q, nq⟩ := SdL.reads I S t rv
    refine ⟨_, Reads.list ho rfl rfl (by simpa using q), ?_⟩
    intro m
    rcases List.mem_cons.mp m with m | m
    · exact sys_ne I S h m
    · exact nq m
  | _, _, _, .tup h t, r => by
    cases r
    obtain ⟨_, its, rv, o, ho, hc, n, hd⟩ := I.hok _ _ h
    obtain ⟨as, q, nq⟩ := SdL.reads I S t rv
    exact ⟨_, Reads.tuple ho hc hd (by simpa using q), nq⟩
  | _, _, _, .dic h t, r => by
    cases r
    obtain ⟨_, _, vs, kv, o, es, ep, ho, hx, hd, _, hp, _⟩ := I.hok _ _ h
    obtain ⟨as, q1, n1⟩ := sdk_keys (P := X.prog) (w := X.w) (h := s.heap) kv hp t
    obtain ⟨bs, q2, n2⟩ := SdK.reads I S t kv hp
    refine ⟨_, Reads.dict ho hx.1 hd q1 q2, ?_⟩
    intro m
    rcases List.mem_cons.mp (show sysModules ∈ _ :: (as ++ bs) from by simpa using m) with m | m
    · exact sys_ne I S h m
    · rcases List.mem_append.mp m with m | m
      · exact n1 m
      · exact n2 m
theorem SdL.reads (I : Inv X pins σ H s) (S : SysB X.base) : ∀ {vs : List V} {ds : List PyData} {us : List Value}, SdL H vs ds → Vals vs us → ∃ as, ReadsAll s.heap us ds as ∧ sysModules ∉ as
  | _, _, _, .nil, .nil => ⟨_, .nil, by simp⟩
  | _, _, _, .cons h t, .cons r rs => by
    obtain ⟨as, q, nq⟩ := Sd.reads I S h r
    obtain ⟨bs, q2, nq2⟩ := SdL.reads I S t rs
    refine ⟨_, .cons q q2, fun m => ?_⟩
    rcases List.mem_append.mp m with m | m
    · exact nq m
    · exact nq2 m
theorem SdK.reads (I : Inv X pins σ H s) (S : SysB X.base) : ∀ {kvs : List (Key × V)} {vs : List (Key × Value)} {es : List DictEntry} {ds : List (PyData × PyData)},
    SdK H kvs ds → KV kvs vs → Pairs (mixKind X.prog X.w) es vs → ∃ as, ReadsAll s.heap (es.map (·.val)) (ds.map (·.2)) as ∧ sysModules ∉ as
  | _, _, _, _, .nil, .nil, .nil => ⟨_, .nil, by simp⟩
  | _, _, _, _, .cons h t, .cons r rs, .cons h1 h2 h3 => by
    obtain ⟨_, r2⟩ := r
    obtain ⟨as, q, nq⟩ := Sd.reads I S h r2
    obtain ⟨bs, q2, nq2⟩ := SdK.reads I S t rs h3
    refine ⟨_, .cons (v := _) (by have h2' := h2; show Reads s.heap (DictEntry.val _) _ _; rw [h2']; exact q) q2, fun m => ?_⟩
    rcases List.mem_append.mp m with m | m
    · exact nq m
    · exact nq2 m
end

/-- repr(x), x data -/
def rRepr : List V → Hp → VK → Prop := fun xs H Q => ∃ x d, xs = [x] ∧ Sd H x d ∧ d.showable = true ∧ d.depth ≤ 100 ∧ d.shown.length ≤ sizeLine ∧ Q (.str d.shown) H
theorem call_repr (S : SysB X.base) (hg : X.A.guards = some []) (hu : X.A.units + 110 < cLine) : CallR X (.builtin "repr") rRepr := by
  intro pins s σ H xs us Q I r h
  obtain ⟨x, d, rfl, hd, h1, h2, h3, q⟩ := h
  obtain ⟨u, rfl, ru⟩ := vals1 r
  obtain ⟨as, rd, ns⟩ := hd.reads I S ru
  cases hd with
  | non => cases ru; exact PySem.P.repr_of_none ⟨.str _, H, I.tok _, ⟨_, rfl⟩, q⟩
  | bl b => cases ru; exact PySem.P.repr_of_bool ⟨.str _, H, I.tok _, ⟨_, rfl⟩, q⟩
  | int i =>
    obtain ⟨t, rfl⟩ := ru
    exact PySem.P.repr_of_int (by simpa [PyData.showable] using h1) ⟨.str _, H, I.tok _, ⟨_, rfl⟩, q⟩
  | str y =>
    obtain ⟨t, rfl⟩ := ru
    exact PySem.P.repr_of_str (hsz := by simpa only [PyData.shown] using h3) ⟨.str _, H, I.tok _, ⟨_, rfl⟩, q⟩
  | lst ha ht =>
    cases ru
    exact repr_of_reads' rd h1 (fun _ => ns) hg (by omega) (fun _ _ e => e) (fun h' v tk k => ⟨.str _, H, I.kept (t' := tk) k, ⟨_, rfl⟩, q⟩) h3
  | tup ha ht =>
    cases ru
    exact repr_of_reads' rd h1 (fun _ => ns) hg (by omega) (fun _ _ e => e) (fun h' v tk k => ⟨.str _, H, I.kept (t' := tk) k, ⟨_, rfl⟩, q⟩) h3
  | dic ha ht =>
    cases ru
    exact repr_of_reads' rd h1 (fun _ => ns) hg (by omega) (fun _ _ e => e) (fun h' v tk k => ⟨.str _, H, I.kept (t' := tk) k, ⟨_, rfl⟩, q⟩) h3
end
end Zk

set_option maxHeartbeats 2000000
/-! Z1: the law's own def, run from the top alone (where nothing is being shown), and the end of a law's proof. -/
namespace Zk
open PySem PySem.Spec PyProof.Rows L2

/-- the context in which the law's body runs: called from the top -/
abbrev topX (P : Program) (w : World) (K : PySem.W.Frag) (mg : Str → Option Value) (base : Heap) (N : List Str) (qual : Str) (sc : Scope) (f : Addr) (cdv : Value) (s : Shared) (H : Hp) : Cx :=
  cxOf CX0 P w K mg base N qual sc f cdv callerA [] s H E0
/-- what the def at f keeps when it is called from the top -/
def LawAt (P : Program) (w : World) (K : PySem.W.Frag) (mg : Str → Option Value) (base : Heap) (f : Addr) (fd : FuncData) (ps : List Str) (sp : Sp) : Prop :=
  ∀ (s : Shared) (H : Hp) (args : Args) (us : List Value) (vs : List V) (Q : VK), vs.length = ps.length → Env0 P w K mg base callerA [] s H → BindsTo s fd args (ps.zip us) → Vals vs us → sp vs H Q E0 →
    codeAny (model P w) callerA (.call (.ref f) args) (CR CX0 [] P w H s Q E0) s
section
variable {P : Program} {w : World} {K : PySem.W.Frag} {mg : Str → Option Value} {base : Heap}
theorem law_at {x qual : Str} {st : Stmt} {f : Addr} {fd : FuncData} {N ps : List Str} {sp : Sp} (F : Fun K x qual st f fd) (S : FnScope N ps (defScope st))
    (body : ∀ (cdv : Value) (s : Shared) (H : Hp) (vs : List V) (Q : VK), sp vs H Q E0 →
      ∃ t, PSs (topX P w K mg base N qual (defScope st) f cdv s H).nox (defBody st) t ∧ t { nx := fun _ H' => Q .non H', rt := Q } (start N vs) H) : LawAt P w K mg base f fd ps sp := by
  obtain ⟨_, _, kV, doc, pm, an, cdv, ct, _, rfl, lk, hcd⟩ := F.ex
  intro s H args us vs Q hl e0 hb r hsp
  have there := fun b o e => (e0.bs b o e).1
  have KX : K.In s.heap := e0.mod.kin.keeps there
  have par : ∀ y ∈ ps.zip us, (defScope st).names.lookup y.1 = some .local ∨ ((defScope st).names.lookup y.1 = some .cell ∧ ((cellsFrom (s.heap.objs.size + 1) (defScope st).names []).lookup y.1).isSome = true) := by
    rintro ⟨n, v⟩ hy
    exact (S.par n (List.of_mem_zip hy).1).imp id fun q => ⟨q, PySem.W.cellsFrom_some _ _ _ (.inl q)⟩
  refine codeAny_call_function (by decide) (KX _ _ lk) rfl S.co S.gen rfl (PySem.W.codeRec_of KX hcd) (hb _ _ _ _ (wpAny_newFunctionEnv_cells S.kind par ?_))
  rintro env rfl s1 x
  obtain ⟨t, ht, hq⟩ := body cdv s H vs Q hsp
  have lim : s.heap.NoLimit := e0.mod.nolimit.keeps there
  refine ⟨lim.keeps x.toInCall.keep, codeAny_func (wpAny_mono (ht.nox.run [] s1 (start N vs) H _ (inv_start S rfl e0 hl r x) hq) ?_ fun e s' hs => hs)⟩
  intro fl s' hs
  cases fl with
  | brk => exact (let ⟨_, _, _, q⟩ := hs; False.elim q)
  | cont => exact (let ⟨_, _, _, q⟩ := hs; False.elim q)
  | next =>
    obtain ⟨_, H', J, q⟩ := hs
    exact ⟨.non, H', J.os, J.bare, J.base, J.hok, rfl, q⟩
  | ret u =>
    obtain ⟨v, _, H', J, rv, q⟩ := hs
    exact ⟨v, H', J.os, J.bare, J.base, J.hok, rv, q⟩

/-- the script tracked as known to its object, or one of the written part's own objects: either way the law may be called -/
theorem law_top {mb : Str → Option Value} {fa a : Addr} {fd : FuncData} {x : Str} {sp : Sp} {s : Shared} {vs : List Value} {ns : List Int}
    (KX : K.In s.heap) (hm : s.heap.Ns mainGlobals mg) (hb : s.heap.Ns builtinsNs mb) (hbb : ∀ y : Str, y ≠ "__name__" → mb y = bootBuiltins y) (lim : s.heap.NoLimit) (hg : s.gens = #[])
    (ha : s.heap.get? a = some { cls := .type "list", data := .seq vs.toArray }) (hi : IntsAre vs ns) (hl : ns.length ≤ sizeLine)
    (sys : ∃ mm, s.heap.Ns sysModules mm) (F : ∀ base : Heap, K.In base → base.Ns mainGlobals mg → SysB base → LawAt P w K mg base fa fd [x] sp) (bind : ∀ (s : Shared) (u : Value), BindsTo s fd ⟨[u], []⟩ [(x, u)])
    (hsp : ∀ H : Hp, Only H → SqL K H a (ns.map V.int) → sp [.ref a] H (fun v _ => v = .bl true) E0) :
    codeAny (model P w) callerA (.call (.ref fa) ⟨[.ref a], []⟩) (fun r s' => r = .ok (.ret (.bool true)) ∧ OldK s.heap s'.heap ∧ s'.os = s.os ∧ AllBare s'.gens) s := by
  -- for an abstract heap H that tracks the script at most, and the script only if it is none of the written part's
  have go : ∀ H : Hp, Only H → SqL K H a (ns.map V.int) → HOk P w H s.heap → (∀ b u, H b = some u → b = a ∧ K.lookup a = none) →
      codeAny (model P w) callerA (.call (.ref fa) ⟨[.ref a], []⟩) (fun r s' => r = .ok (.ret (.bool true)) ∧ OldK s.heap s'.heap ∧ s'.os = s.os ∧ AllBare s'.gens) s := by
    intro H only seq hok lone
    have stay : ∀ {b : Addr} {m : Str → Option Value}, s.heap.Ns b m → (hidT s.heap H).Ns b m := by
      rintro b m ⟨o, es, ep, ho, hd, r⟩
      refine ⟨o, es, ep, hidT_get ho ?_, hd, r⟩
      cases q : H b with
      | none => rfl
      | some u =>
        rw [(lone b u q).1, ha] at ho
        cases ho
        cases (show Data.seq vs.toArray _ = Data.dict es ep from hd)
    have kin : K.In (hidT s.heap H) := fun b o hk => by
      refine hidT_get (KX b o hk) ?_
      cases q : H b with
      | none => rfl
      | some u =>
        obtain ⟨e, n⟩ := lone b u q
        rw [e, n] at hk
        cases hk
    have sysB : SysB (hidT s.heap H) := by
      obtain ⟨mm, hmm⟩ := sys
      obtain ⟨ob, _, _, ho, _⟩ := stay hmm
      exact ⟨ob, ho⟩
    have mod : Mod K mg (hidT s.heap H) := ⟨kin, stay hm, ⟨mb, stay hb, hbb⟩, by obtain ⟨mc, h1, h2⟩ := lim; exact ⟨mc, stay h1, h2⟩⟩
    have none0 : ∀ b : Addr, b ∉ frs [] := fun b => List.not_mem_nil
    have e0 : Env0 P w K mg (hidT s.heap H) callerA [] s H := ⟨rfl, mod, fun _ _ => of_hidT, by rw [hidT_size] <;> exact Nat.le_refl _, trivial, fun b hb => absurd hb (none0 b), hok, .of_eq hg⟩
    refine codeAny_mono (F _ kin (stay hm) sysB s H ⟨[.ref a], []⟩ [.ref a] [.ref a] _ rfl e0 (bind _ _) (.cons rfl .nil) (hsp H only seq)) ?_
    intro r s' h
    match r, h with
    | .error e, h => exact False.elim h
    | .ok .next, h => exact False.elim h
    | .ok .brk, h => exact False.elim h
    | .ok .cont, h => exact False.elim h
    | .ok (.ret u), ⟨v, H', os, bare, un, hok', rv, e⟩ =>
      have e : v = .bl true := e
      subst e
      obtain rfl : u = Value.bool true := rv
      refine ⟨rfl, OldK.of_keep fun b o hb => ?_, os, bare⟩
      rcases only b with z | ⟨ob, xs, z⟩
      · exact un.keep b o hb z (none0 b) List.not_mem_nil
      · have h1 := (hok b _ z).1
        rw [hb] at h1
        cases h1
        exact (hok' b _ (un.frzs b _ _ z)).1
  have len := hi.length
  cases hk : K.lookup a with
  | some o =>
    have z := KX a o hk
    rw [ha] at z
    cases z
    refine go (fun _ => none) (fun _ => .inl rfl) (.inr ⟨_, vs.toArray, _, hk, rfl, rfl, rfl, ?_, by simpa using vals_ints hi⟩) (fun _ _ z => nomatch z) fun _ _ z => nomatch z
    simpa [len] using hl
  | none =>
    let T : HO := .frz { cls := .type "list", data := .seq vs.toArray } (.lst (ns.map V.int))
    have at_ : ∀ b u, (fun b => if b = a then some T else none : Hp) b = some u → b = a ∧ u = T := by
      intro b u z
      by_cases e : b = a
      · exact ⟨e, by simpa [e] using z.symm⟩
      · simp [e] at z
    refine go (fun b => if b = a then some T else none) (fun b => ?_) (.inl (.inr ⟨{ cls := .type "list", data := .seq vs.toArray }, if_pos rfl⟩)) (fun b u z => ?_) fun b u z => ⟨(at_ b u z).1, hk⟩
    · by_cases e : b = a
      · exact .inr ⟨_, _, if_pos e⟩
      · exact .inl (if_neg e)
    · obtain ⟨rfl, rfl⟩ := at_ b u z
      exact ⟨ha, by simpa using hl, vs, _, vals_ints hi, ha⟩
end

/-- the end: the law's promise, from the script's ints (at most n of them, each of at most 2 ^ 20 bits) -/
theorem walk_top {l : PySem.W.OpenLaw} {n : Nat} {q : Program} {loose : List Str} {XP : (Str → Option Value) → Heap → Prop} {YP : World → Heap → Prop} {d : DefRec} {K : Params → PySem.W.Frag} {sp : PySem.W.Frag → Sp} {x : Str}
    (hn : l.most = some n) (hn2 : n ≤ sizeLine) (hdf : d.params.defaults = []) (himp : importsNone q = true) (hY : ∀ (w : World) (h : Heap), YP w h → (K w.params).In h)
    (F : ∀ (w : World) (mg : Str → Option Value) (fa : Addr) (h : Heap), (K w.params).In h → h.Ns mainGlobals mg → mg d.name = some (.ref fa) →
      ∃ fd : FuncData, (∀ (s : Shared) (u : Value), BindsTo s fd ⟨[u], []⟩ [(x, u)]) ∧ ∀ base : Heap, (K w.params).In base → base.Ns mainGlobals mg → SysB base → LawAt l.prog w (K w.params) mg base fa fd [x] (sp (K w.params)))
    (hsp : ∀ (K : PySem.W.Frag) (H : Hp) (a : Addr) (ns : List Int), ns.length ≤ n → (∀ z ∈ ns, Builtin.Int.intBits z ≤ 1048576) → SqL K H a (ns.map V.int) → sp K [.ref a] H (fun v _ => v = .bl true) E0) :
    PySem.W.WalkO q loose XP YP l.row.toRowW d [] (fun f vs => PySem.call f vs) := by
  refine Att.attach_callB hn hdf ?_
  intro w _ s mg mb fa _ _ _ _ a vs ns G Y _ _ _ hmg hobj hints hlen hbits hg
  obtain ⟨fd, hb, hF⟩ := F w mg fa _ (hY w _ Y) G.T.g hmg
  exact law_top (hY w _ Y) G.T.g G.T.b G.T.builtins G.T.nolimit hg hobj hints (Nat.le_trans hlen hn2) (let ⟨mm, e, _⟩ := (G.T.seer himp).mods; ⟨mm, e⟩) hF hb fun H _ hS => hsp _ H a ns hlen hbits hS
end Zk

set_option maxHeartbeats 4000000
/-! G0: a generator expression's frame: its context, its start. -/
namespace Zk
open PySem PySem.Spec PyProof.Rows L2 GxR GenW

/-- the context of a generator expression's frame: made at s (of H), its iterator's objects at fp, its generator's object pinned -/
abbrev genX (X : Cx) (A : Around) (s : Shared) (H : Hp) (cenv : Env) (fp : List Addr) (pn : List (Addr × Obj)) : Cx :=
  { X with A := A, s_0 := s, H_0 := H, env := cenv, outer := X.stack, stack := cenv :: X.stack, ex := fp, fn := fun _ => false, calm := true, pn := pn, xe := fun _ _ => False }
structure GxOk (N : List Str) (sc scope : Scope) (own : List (Str × Nat)) : Prop where
  blk : BlkOk N sc scope own
  co : scope.isCoroutine = false
  cell : ∀ y ∈ scope.names, y.2 ≠ .cell
  dot : scope.names.lookup (".0" : Str) = some NameKind.local
theorem inv_gens {X : Cx} {pins : List (Addr × Obj)} {σ : L2.St} {H : Hp} {s s' : Shared} (I : Inv X pins σ H s) (hh : s'.heap = s.heap) (ho : s'.os = s.os) (hb : AllBare s'.gens) : Inv X pins σ H s' := by
  obtain ⟨h', g', d', t', o'⟩ := s'
  have hh : h' = s.heap := hh
  have ho : o' = s.os := ho
  subst hh ho
  exact ⟨I.ok, I.os, hb, I.base, I.loc, I.cell, I.free, I.freeC, I.pin, I.hok, I.len⟩
section
variable {X : Cx} {pins : List (Addr × Obj)} {σ : L2.St} {H : Hp} {s s5 : Shared}
theorem gx_start {scope : Scope} {own : List (Str × Nat)} {fp : List Addr} {cenv : Env} {A : Around} {a : Addr} {go : Obj} {code : Value} {nd : Str → Option Value}
    (I : Inv X pins σ H s) (ok : GxOk X.N X.env.scope scope own) (hN : X.N.Nodup) (hA : A.handled = none) (hfr : A.frames = some (cenv :: X.stack))
    (hcenv : genEnv scope (cloFrom X.env.cells scope.names []) s.heap.objs.size code builtinsNs X.env = cenv)
    (hfp : ∀ b ∈ fp, FpOk X pins H b ∧ b < s.heap.objs.size) (os : s5.os = s.os) (bare : AllBare s5.gens) (kp : ∀ b o, s.heap.get? b = some o → s5.heap.get? b = some o)
    (hn : s5.heap.Ns s.heap.objs.size nd) (ha : s5.heap.get? a = some go) (haC : s.heap.objs.size < a) (hgd : ∀ v, go.data ≠ .cell v) :
    Inv (genX X A s H cenv fp [(a, go)]) [] (wipe σ (own.map (·.2))) H s5 := by
  have hfree : ∀ y ∈ scope.names, y.2 = .free → ∃ c, X.env.cells.lookup y.1 = some c := fun y hy e => by
    rcases ok.blk.free y hy e with k | k
    · exact I.ok.has _ (.inl k)
    · exact I.ok.has _ (.inr k)
  have hL : cenv.locals = s.heap.objs.size := by rw [← hcenv]; rfl
  have hcl : cenv.cells = cloFrom X.env.cells scope.names [] := by rw [← hcenv]; rfl
  have hsc : cenv.scope = scope := by rw [← hcenv]; rfl
  have hff : cenv.frame = some cenv.locals := by rw [← hcenv]; rfl
  have cm : ∀ {y c}, (y, c) ∈ cloFrom X.env.cells scope.names [] → X.env.cells.lookup y = some c ∧ c < s.heap.objs.size := fun {y c} hm => by
    rcases cloFrom_mem hm with hm | ⟨h1, rfl⟩
    · cases hm
    · obtain ⟨c, hc⟩ := hfree _ h1 rfl
      rw [hc]
      obtain ⟨w, z⟩ := I.cell _ _ hc
      exact ⟨rfl, z.lt⟩
  have mem : ∀ {y c}, cenv.cells.lookup y = some c → X.env.cells.lookup y = some c ∧ c < s.heap.objs.size := fun {y c} e => by
    rw [hcl] at e
    exact cm (PySem.mem_of_lookup e)
  have look : ∀ {y}, scope.names.lookup y = some .free → ∃ c, cenv.cells.lookup y = some c ∧ X.env.cells.lookup y = some c := fun {y} hl => by
    obtain ⟨c', e'⟩ := mem_lookup (cloFrom_has (cells := X.env.cells) (acc := []) (PySem.mem_of_lookup hl))
    rw [← hcl] at e'
    exact ⟨c', e', (mem e').1⟩
  have okB : (genX X A s H cenv fp [(a, go)]).Ok := by
    refine ⟨I.ok.mod, by show cenv.scope.kind = _; rw [hsc]; exact ok.blk.kind, by show cenv.globals = _; rw [← hcenv]; exact I.ok.glob, by show cenv.builtins = _; rw [← hcenv]; rfl, by show s.heap.objs.size ≤ cenv.locals; rw [hL]; exact Nat.le_refl _,
      fun y z c e1 e2 => I.ok.inj y z c (mem e1).1 (mem e2).1, fun y hy => ?_, fun y c z e => Bool.noConfusion z, fun _ => hA, hfr, .inr ⟨rfl, hff⟩, fun b hb => ⟨?_, fun y c e z => ?_⟩, I.bs, Nat.le_trans I.ok.bsz I.sz, fun b o e hb => ?_, fun b hb z => ?_, I.stack, I.stkFree⟩
    · have key : ∀ k, scope.names.lookup y = some k → (k = .cell ∨ k = .free) → ∃ c, cenv.cells.lookup y = some c := fun k e hk => by
        rcases hk with rfl | rfl
        · exact absurd rfl (ok.cell _ (PySem.mem_of_lookup e))
        · obtain ⟨c, h1, _⟩ := look e
          exact ⟨c, h1⟩
      have hy : cenv.scope.names.lookup y = some .cell ∨ cenv.scope.names.lookup y = some .free := hy
      rw [hsc] at hy
      rcases hy with hy | hy
      · exact key _ hy (.inl rfl)
      · exact key _ hy (.inr rfl)
    · show b ≠ cenv.locals
      rw [hL]; exact Nat.ne_of_lt (hfp b hb).2
    · exact (hfp b hb).1.2.2.2.2.1 y c (mem e).1 z
    · rcases (hfp b hb).1.2.2.2.1 with z | z
      · exact I.ok.noex b o e z
      · exact absurd (Nat.lt_of_lt_of_le (Heap.lt_size e) (Nat.le_trans I.ok.bsz z)) (Nat.lt_irrefl _)
    · rcases List.mem_cons.mp (I.stkSub b z) with z | z
      · exact (hfp b hb).1.2.1 z
      · exact (hfp b hb).1.2.2.1 z
  have young : ∀ b, s.heap.objs.size ≤ b → b ∉ frs X.stack := fun b hb z => by
    rcases List.mem_cons.mp (I.stkSub b z) with z | z
    · exact absurd (Nat.lt_of_lt_of_le I.lt (by rw [← z]; exact hb)) (Nat.lt_irrefl _)
    · exact I.nofs hb z
  refine ⟨okB, os, bare, Un.kept kp, ⟨nd, ?_, fun i y av e1 e2 e3 => ?_⟩, fun y c e => ?_, ?_, fun y c e => ?_, fun p hp => ?_, I.hok.kept kp, by rw [wipe_length]; exact I.len⟩
  · show s5.heap.Ns cenv.locals _
    rw [hL]
    exact hn
  · obtain ⟨e2, hne⟩ := wipe_some e2
    have e3 : Vis cenv.scope y := e3
    rw [hsc] at e3
    have no : ∀ k, scope.names.lookup y = some k → (k = .local ∨ k = .cell) → False := fun k e hh => by
      rcases ok.blk.own _ (PySem.mem_of_lookup e) hh with e' | e'
      · obtain ⟨p, hp, hpy⟩ := List.mem_map.mp e'
        have e3 := ok.blk.ix p hp
        have : p.1 = y := hpy
        rw [this] at e3
        exact hne (List.mem_map.mpr ⟨p, hp, nodup_ix hN e3 e1⟩)
      · exact e' (List.mem_of_getElem? e1)
    have hfr : scope.names.lookup y = some .free := by
      rcases e3 with e3 | e3 | e3
      · exact (no _ e3 (.inl rfl)).elim
      · exact (no _ e3 (.inr rfl)).elim
      · exact e3
    obtain ⟨m, hn, hl⟩ := I.loc
    have hvis : Vis X.env.scope y := (ok.blk.free _ (PySem.mem_of_lookup hfr) rfl).elim (fun k => .inr (.inl k)) (fun k => .inr (.inr k))
    obtain ⟨w, r, q⟩ := hl i y av e1 e2 hvis
    refine ⟨w, r, .inr ⟨.inr (by show cenv.scope.names.lookup y = _; rw [hsc]; exact hfr), ?_⟩⟩
    obtain ⟨c, h1, h2⟩ := look hfr
    rcases q with ⟨k, _⟩ | ⟨_, c', e', z⟩
    · have k : X.env.scope.names.lookup y = some .local := k
      rcases ok.blk.free _ (PySem.mem_of_lookup hfr) rfl with k' | k' <;> rw [show X.env.scope.names.lookup y = _ from k'] at k <;> cases k
    · rw [h2] at e'; cases e'
      exact ⟨c, h1, z.keeps kp⟩
  · obtain ⟨w, z⟩ := I.cell y c (mem e).1
    exact ⟨w, z.keeps kp⟩
  · show H cenv.locals = none
    rw [hL]; exact I.hok.fresh (Nat.le_refl _)
  · exact I.freeC y c (mem e).1
  · have hp : p ∈ [(a, go)] ++ [] := hp
    rw [List.append_nil] at hp
    rw [List.mem_singleton.mp hp]
    refine ⟨ha, I.hok.fresh (Nat.le_of_lt haC), ?_, young a (Nat.le_of_lt haC), hgd⟩
    show a ≠ cenv.locals
    rw [hL]
    exact Nat.ne_of_gt haC
end
end Zk

set_option maxHeartbeats 4000000
/-! G1: a generator expression runs, turn by turn; all(..) and any(..) over it. -/
namespace Zk
open PySem PySem.Spec PyProof.Rows L2 GxR GenW

/-- what a turn of the walk comes to: kp is what the consumer goes on with -/
def GxTurn (kp : Bool) (J : It) (g : TG) (tt : TT) (te : TE) (vs : List Nat) (σ : L2.St) (Q : VK) (W : Nat → Nat → Hp → Prop) : Prop :=
  ∀ i m H, W i m H → (J.stop i H ∧ Q (.bl kp) H) ∨ (J.go i H ∧ ∃ Nx : Hp → Prop, (∀ H', Nx H' → ∃ m', m' < m ∧ W (i + 1) m' H') ∧
    ∀ x H', J.yld i H x H' → g x (wipe σ vs) H' fun σ2 H2 => wipe σ2 vs = wipe σ vs ∧ tt σ2 H2 fun b H3 =>
      if b = true then te σ2 H3 fun y H4 => ∃ b', y = .bl b' ∧ ((b' = kp ∧ Nx H4) ∨ (b' ≠ kp ∧ Q (.bl b') H4)) else Nx H3)
/-- an item is handed out -/
def GxY (Xg : Cx) (kp : Bool) (fp : List Addr) (tn : Nat → Heap → Prop) (σ0 : L2.St) (Q : VK) (W : Nat → Nat → Hp → Prop) : Protocol := fun n _ v s1 kap =>
  ∃ b H', v = .bool b ∧ Inv Xg [] σ0 H' s1 ∧ ((b = kp ∧ ∃ m i, m < n ∧ W i m H' ∧ tn i s1.heap ∧ (∀ c ∈ fp, H' c = none) ∧ ∀ s'' : Shared, s''.heap = s1.heap → s''.os = s1.os → AllBare s''.gens → kap (.send .none) s'') ∨ (b ≠ kp ∧ Q (.bl b) H'))
def GxF (Xg : Cx) (kp : Bool) (σ0 : L2.St) (Q : VK) (s1 : Shared) : Prop := ∃ H', Inv Xg [] σ0 H' s1 ∧ Q (.bl kp) H'
def GxR (Xg : Cx) (kp : Bool) (σ0 : L2.St) (Q : VK) : GenEnd := fun n _ r s1 => ((r = .ok (.ret .none) ∨ r = .ok .next) ∧ (fun (_ : Nat) (_ : Shared) s1 => GxF Xg kp σ0 Q s1) n s1 s1) ∨ ∃ e, r = .error e ∧ (fun (_ : Value) (_ : Shared) => False) e s1
section
variable {Xg : Cx} {kp : Bool} {fp : List Addr} {tn : Nat → Heap → Prop} {σ : L2.St} {Q : VK} {W : Nat → Nat → Hp → Prop} {J : It} {g : TG} {tt : TT} {te : TE} {vs : List Nat} {it : Addr} {tg elt iter : Expr} {ifs : List Expr} {scope : Scope} {gpos : Pos} {A : Around}
theorem gx_stat {H' : Hp} {s' : Shared} {σ' : L2.St} (hex : Xg.ex = fp) (hpn : ∀ p ∈ Xg.pn, p.1 ∉ fp) (I : Inv Xg [] σ' H' s') (hn : ∀ b ∈ fp, H' b = none) : ∀ b ∈ fp, FpOk Xg [] H' b := fun b hb =>
  ⟨hn b hb, (I.ok.exf b (hex ▸ hb)).1, I.ok.exfs b (hex ▸ hb), .inl (hex ▸ hb), fun x c e => (I.ok.exf b (hex ▸ hb)).2 x c e, fun p hp z => by
    rw [List.append_nil] at hp
    exact hpn p hp (z ▸ hb)⟩
theorem seg_gx (hex : Xg.ex = fp) (hpn : ∀ p ∈ Xg.pn, p.1 ∉ fp) (hxe : Xg.xe = fun _ _ => False) (hc : Xg.calm = true) (hco : Xg.env.scope.isCoroutine = false)
    (hA : A.over (.compLoop (.GeneratorExp elt [⟨tg, iter, ifs, 0⟩] scope gpos) 0 (.ref it) .none Xg.env) [] = Xg.A) (T : Turn Xg.prog Xg.w Xg.K tg J fp it tn)
    (pg : PG Xg tg g) (pt : PTs Xg ifs tt) (pe : PE Xg elt te) (turn : GxTurn kp J g tt te vs σ Q W) :
    ∀ (m n i : Nat) (s₀ s : Shared) (H' : Hp), m < n → Inv Xg [] (wipe σ vs) H' s → tn i s.heap → (∀ b ∈ fp, H' b = none) → W i m H' →
      Seg (model Xg.prog Xg.w) A (GxR Xg kp (wipe σ vs) Q) (GxY Xg kp fp tn (wipe σ vs) Q W) n s₀ (.compLoop (.GeneratorExp elt [⟨tg, iter, ifs, 0⟩] scope gpos) 0 (.ref it) .none Xg.env)
        ((model Xg.prog Xg.w).den (.compLoop (.GeneratorExp elt [⟨tg, iter, ifs, 0⟩] scope gpos) 0 (.ref it) .none Xg.env)) [] s := by
  intro m
  induction m using Nat.strongRecOn with
  | ind m ih =>
    intro n i s₀ s H5 hmn I5 st5 n5 w5
    show Seg _ A _ _ n s₀ _ ((compTurn (.GeneratorExp elt [⟨tg, iter, ifs, 0⟩] scope gpos) 0 (.ref it) .none Xg.env).onRaise (leaving Xg.env)) [] s
    rw [compTurn_gen, Sem.onRaise_eq_wrap]
    refine seg_bind_wrap (wpAny_standAt ?_)
    have noE : ∀ {α : Type} {t : Sem α} {Qa Qb : α → Shared → Prop} {E : Value → Shared → Prop} {s : Shared}, wpAny (model Xg.prog Xg.w) Xg.A t Qa Xg.xe s → (∀ a s, Qa a s → Qb a s) → wpAny (model Xg.prog Xg.w) Xg.A t Qb E s := fun h hq =>
      wpAny_mono h hq fun e s z => by
        rw [hxe] at z
        exact z.elim
    rcases turn i m H5 w5 with ⟨stop, qq⟩ | ⟨go, Nx, hNx, step⟩
    · refine seg_bind_wrap ?_
      rw [hA]
      refine wpAny_mono (T.done Xg rfl rfl rfl hc i [] s _ H5 _ I5 (gx_stat hex hpn I5 n5) st5 stop) (fun r s6 ⟨hr, I6⟩ => ?_) fun _ _ z => z
      subst hr
      exact seg_end (.ok .next) (.inl ⟨.inr rfl, H5, I6, qq⟩)
    · refine seg_bind_wrap ?_
      rw [hA]
      refine wpAny_mono (T.item Xg rfl rfl rfl hc i [] s _ H5 _ I5 (gx_stat hex hpn I5 n5) st5 go) (fun r s6 ⟨u, hr, h6⟩ => ?_) fun _ _ z => z
      subst hr
      refine seg_bind_wrap ?_
      rw [hA]
      refine wpAny_mono h6 (fun _ s7 ⟨x, H7, I7, r7, y7, st7, n7⟩ => ?_) fun _ _ z => z
      have I7' := I7.pinned (gx_stat hex hpn I7 n7) (T.obj _ _ st7)
      refine seg_bind_wrap ?_
      rw [hA]
      refine noE (pg.run _ s7 _ H7 x u _ I7' r7 (step x H7 y7)) fun _ s8 ⟨σ8, H8, I8, hw8, q8⟩ => ?_
      refine seg_bind_wrap ?_
      rw [hA]
      refine noE (pt.run _ s8 σ8 H8 _ I8 q8) fun b s9 ⟨H9, I9, q9⟩ => ?_
      -- the turn's end
      have back : ∀ {s' : Shared} {H' : Hp}, Inv Xg ([] ++ pinsAt fp s7.heap) σ8 H' s' → Inv Xg [] (wipe σ vs) H' s' ∧ tn (i + 1) s'.heap ∧ (∀ b ∈ fp, H' b = none) := fun {s' H'} I' => by
        have pin' : ∀ b ∈ fp, ∀ o, s7.heap.get? b = some o → s'.heap.get? b = some o ∧ H' b = none := fun b hb o e =>
          let z := I'.pin (b, o) (List.mem_append_right _ (List.mem_append_right _ (mem_pinsAt hb e)))
          ⟨z.1, z.2.1⟩
        have hl : (wipe σ vs).length = σ8.length := by rw [← hw8, wipe_length]
        refine ⟨(I'.unpinned (pins := [])).weak hl (fun j v e => ?_), T.keep _ _ _ st7 fun b hb o e => (pin' b hb o e).1, fun b hb => ?_⟩
        · rw [← hw8] at e
          exact (wipe_some e).1
        · obtain ⟨o, e, _⟩ := T.obj _ _ st7 b hb
          exact (pin' b hb o e).2
      cases b with
      | false =>
        simp only [Bool.false_eq_true, if_false] at q9 ⊢
        obtain ⟨J9, t9, z9⟩ := back I9
        obtain ⟨m', hm, w'⟩ := hNx H9 q9
        exact seg_again rfl (ih m' hm n (i + 1) s₀ s9 H9 (by omega) J9 t9 z9 w')
      | true =>
        simp only [if_true] at q9 ⊢
        have hy : ∀ v, yieldOut Xg.env v = yieldValue v := fun v => by simp only [yieldOut, hco, Bool.false_eq_true, if_false]
        simp only [hy]
        rw [Sem.bind_eq_wrap', Sem.bind_eq_wrap', Sem.wrap_wrap, Sem.wrap_wrap]
        refine seg_wrap ?_
        rw [hA]
        refine noE (pe.run _ s9 σ8 H9 _ I9 q9) fun z s10 ⟨yv, H10, I10, r10, b', e', q10⟩ => ?_
        subst e'
        obtain rfl : z = Value.bool b' := r10
        obtain ⟨J10, t10, z10⟩ := back I10
        rcases q10 with ⟨eb, nx⟩ | ⟨eb, q10⟩
        · obtain ⟨m', hm, w'⟩ := hNx H10 nx
          obtain ⟨n', rfl⟩ : ∃ k, n = k + 1 := ⟨n - 1, by omega⟩
          refine seg_at (seg_yield rfl rfl rfl ⟨b', H10, rfl, J10, .inl ⟨eb, m', i + 1, by omega, w', t10, z10, fun s'' hh ho hb => ?_⟩⟩)
          exact seg_again rfl (ih m' hm n' (i + 1) s'' s'' H10 (by omega) (inv_gens J10 hh ho hb) (by rw [hh]; exact t10) z10 w')
        · obtain ⟨n', rfl⟩ : ∃ k, n = k + 1 := ⟨n - 1, by omega⟩
          exact seg_at (seg_yield rfl rfl rfl ⟨b', H10, rfl, J10, .inr ⟨eb, q10⟩⟩)
theorem seg_gxStart (hex : Xg.ex = fp) (hpn : ∀ p ∈ Xg.pn, p.1 ∉ fp) (hxe : Xg.xe = fun _ _ => False) (hc : Xg.calm = true) (hco : Xg.env.scope.isCoroutine = false)
    (hA : ∀ c, c = Code.compLoop (.GeneratorExp elt [⟨tg, iter, ifs, 0⟩] scope gpos) 0 (.ref it) .none Xg.env ∨ c = Code.compStart (.GeneratorExp elt [⟨tg, iter, ifs, 0⟩] scope gpos) 0 (.ref it) .none Xg.env → A.over c [] = Xg.A) (T : Turn Xg.prog Xg.w Xg.K tg J fp it tn)
    (pg : PG Xg tg g) (pt : PTs Xg ifs tt) (pe : PE Xg elt te) (turn : GxTurn kp J g tt te vs σ Q W) (m n i : Nat) (s₀ s : Shared) (H' : Hp) (hmn : m < n) (I : Inv Xg [] (wipe σ vs) H' s) (st : tn i s.heap) (hn : ∀ b ∈ fp, H' b = none) (w0 : W i m H') :
      Seg (model Xg.prog Xg.w) A (GxR Xg kp (wipe σ vs) Q) (GxY Xg kp fp tn (wipe σ vs) Q W) n s₀ (.compStart (.GeneratorExp elt [⟨tg, iter, ifs, 0⟩] scope gpos) 0 (.ref it) .none Xg.env)
        ((model Xg.prog Xg.w).den (.compStart (.GeneratorExp elt [⟨tg, iter, ifs, 0⟩] scope gpos) 0 (.ref it) .none Xg.env)) [] s := by
  have loop := seg_gx (A := A) hex hpn hxe hc hco (hA _ (.inl rfl)) T pg pt pe turn m n i s₀ s H' hmn I st hn w0
  show Seg _ A _ _ n s₀ _ ((compStart (.GeneratorExp elt [⟨tg, iter, ifs, 0⟩] scope gpos) 0 (.ref it) .none Xg.env).onRaise (leaving Xg.env)) [] s
  unfold compStart
  rw [Sem.onRaise_eq_wrap]
  show Seg _ A _ _ n s₀ _ ((ask >>= _).wrap _ _ _ _) [] s
  refine seg_bind_wrap (wpAny_askSetting ?_)
  split
  · exact seg_again rfl loop
  · first
      | exact seg_bind_wrap (wpAny_rule (seg_bind_wrap (wpAny_standAt (seg_bind_wrap (T.self _ i s _ _ st (seg_again rfl loop))))))
      | (refine seg_bind_wrap (wpAny_rule ?_); show Seg _ A _ _ n s₀ _ ((standAt iter.pos >>= _).wrap _ _ _ _) [] s; exact seg_bind_wrap (wpAny_standAt (seg_bind_wrap (T.self _ i s _ _ st (seg_again rfl loop)))))

/-- where the generator stands between two items -/
def GxAt (M : Model) (A : Around) (Xg : Cx) (kp : Bool) (fp : List Addr) (tn : Nat → Heap → Prop) (σ0 : L2.St) (Q : VK) (W : Nat → Nat → Hp → Prop) (a : Addr) (gn n : Nat) (s : Shared) : Prop :=
  s.heap.IsGen a gn ∧ s.heap.NoLimit ∧ ∃ gs, s.gens[gn]? = some gs ∧ gs.Goes M A (GxR Xg kp σ0 Q) (GxY Xg kp fp tn σ0 Q W) n (.send .none) (s.setGen gn .running)
theorem gx_loop {P : Program} {w : World} {A : Around} {R : Result → Shared → Prop} {a : Addr} {gn : Nat} {go : Obj} {σ0 : L2.St} {id : String} (hid : (id = "all.loop" ∧ kp = true) ∨ (id = "any.loop" ∧ kp = false))
    (hP : Xg.prog = P) (hw : Xg.w = w) (hh : A.handled = none) (hd : A.depth < recursionLimit) (hpn : Xg.pn = [(a, go)]) (hgo : ∀ h : Heap, h.get? a = some go → h.IsGen a gn)
    (hend : ∀ b s' H', Inv Xg [] σ0 H' s' → Q (.bl b) H' → R (.ok (.ret (.bool b))) s') :
    ∀ (n : Nat) (s : Shared), GxAt (model P w) A.in1.in1 Xg kp fp tn σ0 Q W a gn n s → codeAny (model P w) A (.builtin id ⟨[.ref a], []⟩) R s := by
  have isG : ∀ {σ' : L2.St} {H' : Hp} {s' : Shared}, Inv Xg [] σ' H' s' → s'.heap.IsGen a gn := fun {σ' H' s'} I => hgo _ (I.pin (a, go) (List.mem_append_left _ (by rw [hpn]; exact List.mem_singleton.mpr rfl))).1
  have goes : ∀ {gs : GenState} {B : Around} {n : Nat} {r : Resume} {s : Shared}, gs.Goes (model P w) B (GxR Xg kp σ0 Q) (GxY Xg kp fp tn σ0 Q W) n r s →
      gs.Goes (model P w) B (fun n s₀ r s1 => ((r = .ok (.ret .none) ∨ r = .ok .next) ∧ (fun (_ : Nat) (_ : Shared) s1 => GxF Xg kp σ0 Q s1) n s₀ s1) ∨ ∃ e, r = .error e ∧ (fun (_ : Value) (_ : Shared) => False) e s1) (GxY Xg kp fp tn σ0 Q W) n r s := fun h => h
  -- one item, for either consumer
  have turn : ∀ (n : Nat) (s : Shared), (∀ m, m < n → ∀ s, GxAt (model P w) A.in1.in1 Xg kp fp tn σ0 Q W a gn m s → codeAny (model P w) A (.builtin id ⟨[.ref a], []⟩) R s) → GxAt (model P w) A.in1.in1 Xg kp fp tn σ0 Q W a gn n s →
      wpAny (model P w) A.in1 (pyNext (.ref a)) (fun r s1 => match r with
        | none => R (.ok (.ret (.bool kp))) s1
        | some v => ∃ b, v = .bool b ∧ if b = kp then codeAny (model P w) A (.builtin id ⟨[.ref a], []⟩) R s1 else R (.ok (.ret (.bool b))) s1) (fun _ _ => False) s := by
    intro n s ih ⟨hg, hl, gs, hgs, hgo'⟩
    have hgl : gn < s.gens.size := (Array.getElem?_eq_some_iff.mp hgs).1
    refine wpAny_mono (wpAny_gsz (n := gn + 1) hgl (next_genG (A := A.in1) (Q := fun r s1 => gn + 1 ≤ s1.gens.size → _) (E := fun _ _ => _) hh hl hd hg hgs (goes hgo') (fun v s₁ gs' hbare hv => ?_) (fun s₁ hp h' hk => ?_) fun e s₁ he => he.elim)) (fun _ _ h => h) fun _ _ h => h
    · intro hsz
      obtain ⟨b, H', rfl, I1, h1⟩ := hv
      refine ⟨b, rfl, ?_⟩
      have bare1 : AllBare (s₁.setGen gn gs').gens := allBare_setGen I1.bare hbare
      have hsz1 : gn < s₁.gens.size := by
        have q : (s₁.setGen gn gs').gens.size = s₁.gens.size := setGen_size _ _ _
        have hsz' : gn + 1 ≤ (s₁.setGen gn gs').gens.size := hsz
        omega
      rcases h1 with ⟨eb, m, i, hmn, w1, t1, z1, kap⟩ | ⟨eb, q⟩
      · rw [if_pos eb]
        cases n with
        | zero => exact absurd hmn (Nat.not_lt_zero _)
        | succ n' =>
          refine ih n' (Nat.lt_succ_self _) _ ⟨(isG I1 : s₁.heap.IsGen a gn), ?_, gs', setGen_at hsz1, ?_⟩
          · exact I1.nolimit
          · exact kap ((s₁.setGen gn gs').setGen gn .running) rfl rfl (allBare_setGen bare1 rfl)
      · rw [if_neg eb]
        exact hend b _ H' (inv_gens I1 rfl rfl bare1) q
    · intro hsz
      obtain ⟨H', I1, q⟩ := hp
      refine hend kp _ H' ?_ q
      have I2 := I1.kept (t' := s₁.toks) hk
      exact inv_gens I2 rfl rfl (allBare_setGen I1.bare rfl)
  intro n
  induction n using Nat.strongRecOn with
  | ind n ih =>
    intro s hs
    have t := turn n s ih hs
    rcases hid with ⟨rfl, rfl⟩ | ⟨rfl, rfl⟩
    · refine codeAny_builtin F.entry_all_loop ?_
      rw [Around.under_plainId F.plain_all_loop _]
      show wpAny _ A.in1 (pyNext (.ref a) >>= _) _ _ s
      refine wpAny_bind (wpAny_mono t (fun r s1 h1 => ?_) fun _ _ z => z.elim)
      cases r with
      | none => exact wpAny_bind (wpAny_rule (wpAny_pure h1))
      | some v =>
        obtain ⟨b, rfl, h1⟩ := h1
        refine wpAny_bind (wpAny_holding (wpAny_truthy_bool ?_))
        refine wpAny_bind (wpAny_letGo ?_)
        cases b with
        | true => exact wpAny_pure ⟨plainId_quiet F.plain_all_loop _, h1⟩
        | false => exact wpAny_bind (wpAny_rule (wpAny_pure h1))
    · refine codeAny_builtin F.entry_any_loop ?_
      rw [Around.under_plainId F.plain_any_loop _]
      show wpAny _ A.in1 (pyNext (.ref a) >>= _) _ _ s
      refine wpAny_bind (wpAny_mono t (fun r s1 h1 => ?_) fun _ _ z => z.elim)
      cases r with
      | none => exact wpAny_bind (wpAny_rule (wpAny_pure h1))
      | some v =>
        obtain ⟨b, rfl, h1⟩ := h1
        refine wpAny_bind (wpAny_holding (wpAny_truthy_bool ?_))
        refine wpAny_bind (wpAny_letGo ?_)
        cases b with
        | false => exact wpAny_pure ⟨plainId_quiet F.plain_any_loop _, h1⟩
        | true => exact wpAny_bind (wpAny_rule (wpAny_pure h1))
end
end Zk

set_option maxHeartbeats 4000000
/-! G2: all(elt for x in xs if ..), any(..): whatever PI walks, whatever a reading tells of the element. -/
namespace Zk
open PySem PySem.Spec PyProof.Rows L2 GxR GenW

/-- the reading of all(..) (kp true), any(..) (kp false) of a generator expression: P the def's table -/
def tGx (kp : Bool) (P : Addr) (wi : TI) (g : TG) (tt : TT) (te : TE) (vs : List Nat) : TE := fun σ H Q => wi σ H fun J H1 => TabG H1 P ∧ ∀ H2, Tabbed P H1 H2 →
  ∃ W : Nat → Nat → Hp → Prop, (∃ m, W 0 m H2) ∧ GxTurn kp J g tt te vs σ Q W
section
variable {X : Cx} {pins : List (Addr × Obj)} {σ : L2.St} {H : Hp} {s : Shared}
theorem roomG {k : Nat} {A : Around} (r : Room (k + 1) A) (env : Env) : Room k (A.in1.in1.deeper env) :=
  ⟨r.hd, by have := r.dp; show A.depth + 1 + 3 * k + 5 < _; omega, by have := r.un; show A.units + 1 + 1 + 3 + 16 * k + 200 < _; omega⟩
/-- what holds of the generator g in the state s5 -/
def GxReady (X : Cx) (pins : List (Addr × Obj)) (σ : L2.St) (kp : Bool) (vs : List Nat) (Q : VK) (g : Addr) (s5 : Shared) : Prop :=
  ∃ (Xg : Cx) (fp : List Addr) (tn : Nat → Heap → Prop) (W : Nat → Nat → Hp → Prop) (gn n : Nat) (go : Obj), Xg.prog = X.prog ∧ Xg.w = X.w ∧ Xg.pn = [(g, go)] ∧ (∀ h : Heap, h.get? g = some go → h.IsGen g gn) ∧
    GxAt (model X.prog X.w) X.A.in1.in1 Xg kp fp tn (wipe σ vs) Q W g gn n s5 ∧ ∀ s' H', Inv Xg [] (wipe σ vs) H' s' → Inv X pins σ H' s'
theorem gx_make {c P : Addr} {tg elt iter : Expr} {ifs : List Expr} {scope : Scope} {gpos : Pos} {own : List (Str × Nat)} {wi : TI} {g : TG} {tt : TT} {te : TE} {k : Nat} {kp : Bool} {Q : VK} {Q' : Value → Shared → Prop}
    (hr : Room (k + 1) X.A) (TB : TabB X.base X.mg c P) (hcode : X.env.code = .ref c) (hN : X.N.Nodup) (ok : GxOk X.N X.env.scope scope own) (hi : PI X tg iter wi)
    (hg : ∀ (A : Around) (s : Shared) (H : Hp) (C : Addr) (cl : List (Str × Addr)) (code : Value) (fp : List Addr) (pn : List (Addr × Obj)), Room k A → PG (genX X A s H (genEnv scope cl C code builtinsNs X.env) fp pn) tg g)
    (ht : ∀ (A : Around) (s : Shared) (H : Hp) (C : Addr) (cl : List (Str × Addr)) (code : Value) (fp : List Addr) (pn : List (Addr × Obj)), Room k A → PTs (genX X A s H (genEnv scope cl C code builtinsNs X.env) fp pn) ifs tt)
    (he : ∀ (A : Around) (s : Shared) (H : Hp) (C : Addr) (cl : List (Str × Addr)) (code : Value) (fp : List Addr) (pn : List (Addr × Obj)), Room k A → PE (genX X A s H (genEnv scope cl C code builtinsNs X.env) fp pn) elt te)
    (hs : ∀ v, genFold iter X.env v = pure v) (I : Inv X pins σ H s) (h : tGx kp P wi g tt te (own.map (·.2)) σ H Q) (hQ : ∀ a s5, GxReady X pins σ kp (own.map (·.2)) Q a s5 → Q' (.ref a) s5) :
    wpAny (model X.prog X.w) X.A (eval (.GeneratorExp elt [⟨tg, iter, ifs, 0⟩] scope gpos) X.env) Q' X.xe s := by
  have hfree : ∀ y ∈ scope.names, y.2 = .free → ∃ c, X.env.cells.lookup y.1 = some c := fun y hy e => by
    rcases ok.blk.free y hy e with k | k
    · exact I.ok.has _ (.inl k)
    · exact I.ok.has _ (.inr k)
  refine wpAny_GeneratorExp_make ok.co (closure_ok hfree) ok.cell ok.dot ok.blk.kind (by have := hr.dp; omega) ?_ hs
  refine thn (hi.run pins s σ H _ I h) fun xv s1 hx => thn hx fun itv s2 h2 => ?_
  obtain ⟨it, fp, tn, J, H1, rfl, I2, T, st2, f2, ⟨ps, hP, ht3⟩, q⟩ := h2
  refine ⟨I2.nolimit, ?_⟩
  have hPs : s2.heap.get? P = some { cls := .none, data := .fields ps } := I2.hok P _ hP
  have cd : PySem.W.CodeHd s2.heap c P := TB.code.keeps fun b u e => I2.bk b u e
  have nfP : ∀ b ∈ fp, b ≠ P := fun b hb z => by
    have := (f2 b hb).1
    rw [z, hP] at this
    cases this
  have szf : ∀ b ∈ fp, b < s2.heap.objs.size := fun b hb => by
    obtain ⟨o, e, _⟩ := T.obj _ _ st2 b hb
    exact Heap.lt_size e
  -- from the state in which the code object is known
  have cont : ∀ (code : Value) (h3 : Heap) (tk : Nat) (more : Array Value), Heap.ExtBut P s2.heap h3 → s2.heap.objs.size ≤ h3.objs.size → h3.get? P = some { cls := .none, data := .fields (ps ++ more) } → TriplesOk (ps ++ more).toList →
      wpAny (model X.prog X.w) X.A (builtinsFor X.env.globals X.env.builtins) (fun bi s₄ => ∀ h', h'.Ns s₄.heap.objs.size (fun y => if y = ".0" then some (.ref it) else none) → Heap.SameBut s₄.heap.objs.size (s₄.heap.push { cls := .type "frame", data := .dict #[] }) h' →
          Q' (.ref h'.objs.size) { s₄ with
            gens := s₄.gens.push (.fresh (.compStart (.GeneratorExp elt [⟨tg, iter, ifs, 0⟩] scope gpos) 0 (.ref it) .none (genEnv scope (cloFrom X.env.cells scope.names []) s₄.heap.objs.size code bi X.env))),
            toks := s₄.toks + 1 + 1 + 1,
            heap := h'.push { cls := .type "generator", data := .fields #[.int s₄.gens.size 0, .str "<genexpr>" (s₄.toks + 1), .str (X.env.qual ++ "<genexpr>") (s₄.toks + 1 + 1)] } }) X.xe { s2 with heap := h3, toks := tk } := by
    intro code h3 tk more hx hsz hP3 htr
    obtain ⟨bm, ob, e1, e2, e3, e4, e5, e6, e7, e8⟩ := TB.bm
    refine wpAny_builtinsFor (m := X.mg) (by rw [I2.ok.glob]; exact (I2.mod.glob.keeps I2.bk).extBut hx TB.gP) e1 e2 (hx _ _ e4 (I2.bk _ _ e5)) e6 e7 e8 ?_
    have I3 : Inv X pins σ (upd H1 P (.tbl (ps ++ more))) { s2 with heap := h3, gens := s2.gens, drawn := s2.drawn, toks := tk } := inv_tab (t' := tk) (d' := s2.drawn) I2 hP (fun b o hb e => hx b o hb e) hP3 I2.bare
    generalize hs4 : ({ s2 with heap := h3, toks := tk } : Shared) = s4 at I3 ⊢
    have hh4 : s4.heap = h3 := by rw [← hs4]
    generalize hH2 : upd H1 P (.tbl (ps ++ more)) = H2 at I3
    have tabbed : Tabbed P H1 H2 := by
      subst hH2
      exact ⟨⟨_, upd_same, htr⟩, fun b hb => upd_ne hb⟩
    obtain ⟨W, ⟨m0, w0⟩, turn⟩ := q H2 tabbed
    have f3 : ∀ b ∈ fp, FpOk X pins H2 b ∧ b < s4.heap.objs.size := fun b hb => by
      refine ⟨⟨?_, (f2 b hb).2⟩, by rw [hh4]; exact Nat.lt_of_lt_of_le (szf b hb) hsz⟩
      rw [tabbed.2 b (nfP b hb)]
      exact (f2 b hb).1
    have st4 : tn 0 s4.heap := T.keep _ _ _ st2 fun b hb o e => by rw [hh4]; exact hx b o (nfP b hb) e
    intro h' hn' hs'
    have szC : h'.objs.size = s4.heap.objs.size + 1 := by rw [hs'.1, Heap.size_push]
    have keep' : ∀ b o, s4.heap.get? b = some o → h'.get? b = some o := fun b o e => hs'.extBut b o (Nat.ne_of_lt (Heap.lt_size e)) (Heap.get?_push_of_some _ e)
    generalize hgo : ({ cls := .type "generator", data := .fields #[.int s4.gens.size 0, .str "<genexpr>" (s4.toks + 1), .str (X.env.qual ++ "<genexpr>") (s4.toks + 1 + 1)] } : Obj) = go
    have hgen : ∀ h : Heap, h.get? h'.objs.size = some go → h.IsGen h'.objs.size s4.gens.size := fun h e => ⟨go, .str "<genexpr>" (s4.toks + 1), .str (X.env.qual ++ "<genexpr>") (s4.toks + 1 + 1), e, by rw [← hgo], by rw [← hgo], by rw [← hgo]⟩
    have keep5 : ∀ b o, s4.heap.get? b = some o → (h'.push go).get? b = some o := fun b o e => Heap.get?_push_of_some _ (keep' b o e)
    generalize hcenv : genEnv scope (cloFrom X.env.cells scope.names []) s4.heap.objs.size code builtinsNs X.env = cenv
    have hL : cenv.locals = s4.heap.objs.size := by rw [← hcenv]; rfl
    have at5 : (h'.push go).get? h'.objs.size = some go := by
      rw [← hgo]
      exact Heap.get?_push_size _ rfl
    have I5 := gx_start (s5 := { s4 with gens := s4.gens.push (.fresh (.compStart (.GeneratorExp elt [⟨tg, iter, ifs, 0⟩] scope gpos) 0 (.ref it) .none cenv)), toks := s4.toks + 1 + 1 + 1, heap := h'.push go }) (A := X.A.in1.in1.deeper cenv) (a := h'.objs.size) (go := go)
      I3 ok hN hr.hd (Around.frames_deeper (A := X.A.in1.in1) I3.ok.frames) hcenv f3 rfl (AllBare.push I3.bare rfl) keep5 (hn'.push _) at5 (by rw [szC]; exact Nat.lt_succ_self _) (fun v z => by rw [← hgo] at z; cases z)
    have rk : Room k (X.A.in1.in1.deeper cenv) := roomG hr cenv
    have pg := hg (X.A.in1.in1.deeper cenv) s4 H2 s4.heap.objs.size (cloFrom X.env.cells scope.names []) code fp [(h'.objs.size, go)] rk
    have pt := ht (X.A.in1.in1.deeper cenv) s4 H2 s4.heap.objs.size (cloFrom X.env.cells scope.names []) code fp [(h'.objs.size, go)] rk
    have pe := he (X.A.in1.in1.deeper cenv) s4 H2 s4.heap.objs.size (cloFrom X.env.cells scope.names []) code fp [(h'.objs.size, go)] rk
    rw [hcenv] at pg pt pe
    have afp : h'.objs.size ∉ fp := fun z => by
      have := (f3 _ z).2
      rw [szC] at this
      exact absurd (Nat.lt_of_succ_lt this) (Nat.lt_irrefl _)
    have st5 : tn 0 (h'.push go) := T.keep _ _ _ st4 fun b _ o e => keep5 b o e
    refine hQ _ _ ⟨genX X (X.A.in1.in1.deeper cenv) s4 H2 cenv fp [(h'.objs.size, go)], fp, tn, W, s4.gens.size, m0 + 1, go, rfl, rfl, rfl, hgen, ⟨hgen _ at5, I5.nolimit, _, Array.getElem?_push_size .., rfl, ?_⟩, fun s' H' I' => ?_⟩
    · refine seg_gxStart (Xg := genX X (X.A.in1.in1.deeper cenv) s4 H2 cenv fp [(h'.objs.size, go)]) (J := J) (g := g) (tt := tt) (te := te) rfl (fun p hp => ?_) rfl rfl (by show cenv.scope.isCoroutine = false; rw [← hcenv]; exact ok.co) (fun cc hcc => ?_) T pg pt pe turn m0 (m0 + 1) 0 _ _ H2 (Nat.lt_succ_self _) ?_ ?_ (fun b hb => (f3 b hb).1.1) w0
      · rw [List.mem_singleton.mp hp]
        exact afp
      · rcases hcc with rfl | rfl <;> rfl
      · exact inv_gens I5 rfl rfl (allBare_setGen I5.bare rfl)
      · exact st5
    · exact I3.call' (ch := fp) I'.os I'.base I'.hok I'.bare fun b hb => ⟨(f3 b hb).1.2.2.2.1, (f3 b hb).1.2.1, (f3 b hb).1.2.2.2.2.1, (f3 b hb).1.2.2.2.2.2⟩
  cases hf : codeAmong gpos ps.toList with
  | none =>
    refine wpAny_genexprCodeX hcode (cd.code hPs ht3) (cd.tab hPs) hf fun c' h' tk hx hge hlt hco' _ htab' _ => ?_
    obtain ⟨o1, vs, f1, tf, fl, tg', inF, tx, tt', op, _, _, _, _, _, _, _, _, _, htr, _⟩ := hco'
    exact cont _ h' tk _ hx (Nat.le_trans hge (Nat.le_of_lt hlt)) htab'.2 htr
  | some cv =>
    refine wpAny_genexprCode_hit hcode (cd.code hPs ht3) hf ?_
    exact cont cv s2.heap s2.toks #[] (Heap.ExtBut.refl _ _) (Nat.le_refl _) (by simpa using hPs) (by simpa using ht3)
theorem pe_all {c P : Addr} {tg elt iter : Expr} {ifs : List Expr} {scope : Scope} {p pos gpos : Pos} {own : List (Str × Nat)} {wi : TI} {g : TG} {tt : TT} {te : TE} {k : Nat}
    (hr : Room (k + 1) X.A) (hgl : Gl X "all") (hm : X.mg "all" = none) (TB : TabB X.base X.mg c P) (hcode : X.env.code = .ref c) (hN : X.N.Nodup) (ok : GxOk X.N X.env.scope scope own) (hi : PI X tg iter wi)
    (hg : ∀ (A : Around) (s : Shared) (H : Hp) (C : Addr) (cl : List (Str × Addr)) (code : Value) (fp : List Addr) (pn : List (Addr × Obj)), Room k A → PG (genX X A s H (genEnv scope cl C code builtinsNs X.env) fp pn) tg g)
    (ht : ∀ (A : Around) (s : Shared) (H : Hp) (C : Addr) (cl : List (Str × Addr)) (code : Value) (fp : List Addr) (pn : List (Addr × Obj)), Room k A → PTs (genX X A s H (genEnv scope cl C code builtinsNs X.env) fp pn) ifs tt)
    (he' : ∀ (A : Around) (s : Shared) (H : Hp) (C : Addr) (cl : List (Str × Addr)) (code : Value) (fp : List Addr) (pn : List (Addr × Obj)), Room k A → PE (genX X A s H (genEnv scope cl C code builtinsNs X.env) fp pn) elt te)
    (hs : ∀ v, genFold iter X.env v = pure v := by intro _; rfl) (hb : bootBuiltins "all" = some (.builtin "all") := by decide +kernel)
    (he : starEach [.GeneratorExp elt [⟨tg, iter, ifs, 0⟩] scope gpos] X.env = (false, eval (.GeneratorExp elt [⟨tg, iter, ifs, 0⟩] scope gpos) X.env) :: starEach [] X.env := by rfl) :
    PE X (.Call (.Name "all" p) [.GeneratorExp elt [⟨tg, iter, ifs, 0⟩] scope gpos] [] pos) (tGx true P wi g tt te (own.map (·.2))) := by
  refine ⟨fun pins s σ H Q I h => ?_⟩
  refine wpAny_Call_Name_kw (ld_blt I hgl hm hb ?_)
  refine PyProof.Rows.callWith_builtin1 ?_ he (by rfl)
  rw [he]
  show wpAny _ _ (spliced ((false, eval (.GeneratorExp elt [⟨tg, iter, ifs, 0⟩] scope gpos) X.env) :: backTo pos (starEach [] X.env))) _ _ s
  refine Calls.spliced_cons (gx_make hr TB hcode hN ok hi hg ht he' hs I h fun a s5 hR => ?_)
  refine Calls.spliced_nil ?_
  obtain ⟨Xg, fp, tn, W, gn, n, go, hP, hw, hpn, hgo, hat, hback⟩ := hR
  refine call_function_tree F.kind_all F.plain_all F.entry_all (F.args_all1 _) ?_
  unfold Builtin.«all»
  refine wpAny_bind (m := oneArg "all" _) (wpAny_pure ?_)
  refine wpAny_bind (wpAny_pyIter_gen hat.1 ?_)
  refine wpAny_pure ⟨plainId_quiet F.plain_all_loop _, gx_loop (.inl ⟨rfl, rfl⟩) hP hw hr.hd (by have := hr.dp; omega) hpn hgo (fun b s' H' I' q => ?_) n s5 hat⟩
  exact ⟨.bl b, H', hback s' H' I', rfl, q⟩
theorem pe_any {c P : Addr} {tg elt iter : Expr} {ifs : List Expr} {scope : Scope} {p pos gpos : Pos} {own : List (Str × Nat)} {wi : TI} {g : TG} {tt : TT} {te : TE} {k : Nat}
    (hr : Room (k + 1) X.A) (hgl : Gl X "any") (hm : X.mg "any" = none) (TB : TabB X.base X.mg c P) (hcode : X.env.code = .ref c) (hN : X.N.Nodup) (ok : GxOk X.N X.env.scope scope own) (hi : PI X tg iter wi)
    (hg : ∀ (A : Around) (s : Shared) (H : Hp) (C : Addr) (cl : List (Str × Addr)) (code : Value) (fp : List Addr) (pn : List (Addr × Obj)), Room k A → PG (genX X A s H (genEnv scope cl C code builtinsNs X.env) fp pn) tg g)
    (ht : ∀ (A : Around) (s : Shared) (H : Hp) (C : Addr) (cl : List (Str × Addr)) (code : Value) (fp : List Addr) (pn : List (Addr × Obj)), Room k A → PTs (genX X A s H (genEnv scope cl C code builtinsNs X.env) fp pn) ifs tt)
    (he' : ∀ (A : Around) (s : Shared) (H : Hp) (C : Addr) (cl : List (Str × Addr)) (code : Value) (fp : List Addr) (pn : List (Addr × Obj)), Room k A → PE (genX X A s H (genEnv scope cl C code builtinsNs X.env) fp pn) elt te)
    (hs : ∀ v, genFold iter X.env v = pure v := by intro _; rfl) (hb : bootBuiltins "any" = some (.builtin "any") := by decide +kernel)
    (he : starEach [.GeneratorExp elt [⟨tg, iter, ifs, 0⟩] scope gpos] X.env = (false, eval (.GeneratorExp elt [⟨tg, iter, ifs, 0⟩] scope gpos) X.env) :: starEach [] X.env := by rfl) :
    PE X (.Call (.Name "any" p) [.GeneratorExp elt [⟨tg, iter, ifs, 0⟩] scope gpos] [] pos) (tGx false P wi g tt te (own.map (·.2))) := by
  refine ⟨fun pins s σ H Q I h => ?_⟩
  refine wpAny_Call_Name_kw (ld_blt I hgl hm hb ?_)
  refine PyProof.Rows.callWith_builtin1 ?_ he (by rfl)
  rw [he]
  show wpAny _ _ (spliced ((false, eval (.GeneratorExp elt [⟨tg, iter, ifs, 0⟩] scope gpos) X.env) :: backTo pos (starEach [] X.env))) _ _ s
  refine Calls.spliced_cons (gx_make hr TB hcode hN ok hi hg ht he' hs I h fun a s5 hR => ?_)
  refine Calls.spliced_nil ?_
  obtain ⟨Xg, fp, tn, W, gn, n, go, hP, hw, hpn, hgo, hat, hback⟩ := hR
  refine call_function_tree F.kind_any F.plain_any F.entry_any (F.args_any1 _) ?_
  unfold Builtin.«any»
  refine wpAny_bind (m := oneArg "any" _) (wpAny_pure ?_)
  refine wpAny_bind (wpAny_pyIter_gen hat.1 ?_)
  refine wpAny_pure ⟨plainId_quiet F.plain_any_loop _, gx_loop (.inr ⟨rfl, rfl⟩) hP hw hr.hd (by have := hr.dp; omega) hpn hgo (fun b s' H' I' q => ?_) n s5 hat⟩
  exact ⟨.bl b, H', hback s' H' I', rfl, q⟩
end
end Zk

set_option maxHeartbeats 4000000
/-! G3: the forms of all(..), any(..) that one uses: over a range, a list, a tuple, a text. -/
namespace Zk
open PySem PySem.Spec PyProof.Rows L2 GxR
def gxC (N : List Str) (sc scope : Scope) (own : List (Str × Nat)) : Bool :=
  blkC N sc scope own && (!scope.isCoroutine) && (scope.names.all fun y => match y.2 with | .cell => false | _ => true) && (match scope.names.lookup (".0" : Str) with | some .local => true | _ => false)
theorem gxOk_by {N : List Str} {sc scope : Scope} {own : List (Str × Nat)} (h : gxC N sc scope own = true) : GxOk N sc scope own := by
  unfold gxC at h
  simp only [Bool.and_eq_true, List.all_eq_true, Bool.not_eq_true'] at h
  obtain ⟨⟨⟨h1, h2⟩, h3⟩, h4⟩ := h
  refine ⟨blkOk_by h1, h2, fun y hy e => ?_, ?_⟩
  · have q := h3 y hy
    rw [e] at q
    cases q
  · split at h4
    · assumption
    · cases h4
section
variable {kp : Bool} {g : TG} {tt : TT} {te : TE} {vs : List Nat} {σ : L2.St} {H2 : Hp} {Q : VK}
/-- one turn: from Pv i to Pv (i + 1), or out -/
def GxStep (kp : Bool) (tt : TT) (te : TE) (vs : List Nat) (σ : L2.St) (Q : VK) (Nx : Hp → Prop) : L2.St → Hp → Prop := fun σ2 H2 => wipe σ2 vs = wipe σ vs ∧ tt σ2 H2 fun b H3 =>
  if b = true then te σ2 H3 fun y H4 => ∃ b', y = .bl b' ∧ ((b' = kp ∧ Nx H4) ∨ (b' ≠ kp ∧ Q (.bl b') H4)) else Nx H3
theorem gx_by {J : It} {n : Nat} (Pv : Nat → Hp → Prop) (h0 : Pv 0 H2) (hgo : ∀ i H, i < n → Pv i H → J.go i H) (hs : ∀ i H, i < n → Pv i H → ∀ x H', J.yld i H x H' → g x (wipe σ vs) H' (GxStep kp tt te vs σ Q (Pv (i + 1)))) (hst : ∀ H, Pv n H → J.stop n H)
    (hd : ∀ H, Pv n H → Q (.bl kp) H) : ∃ W : Nat → Nat → Hp → Prop, (∃ m, W 0 m H2) ∧ GxTurn kp J g tt te vs σ Q W := by
  refine ⟨fun i m H => m = n - i ∧ i ≤ n ∧ Pv i H, ⟨n, by simp, Nat.zero_le _, h0⟩, ?_⟩
  rintro i m H ⟨rfl, hi, p⟩
  by_cases hlt : i < n
  · exact .inr ⟨hgo i H hlt p, Pv (i + 1), fun H' p' => ⟨n - (i + 1), by omega, rfl, hlt, p'⟩, hs i H hlt p⟩
  · have e : i = n := by omega
    subst e
    exact .inl ⟨hst H p, hd H p⟩
theorem gx_range {lo : Int} {n : Nat} (Pv : Nat → Hp → Prop) (h0 : Pv 0 H2) (hs : ∀ i H, i < n → Pv i H → g (.int (lo + i)) (wipe σ vs) H (GxStep kp tt te vs σ Q (Pv (i + 1)))) (hd : ∀ H, Pv n H → Q (.bl kp) H) :
    ∃ W : Nat → Nat → Hp → Prop, (∃ m, W 0 m H2) ∧ GxTurn kp (Itr lo n) g tt te vs σ Q W :=
  gx_by Pv h0 (fun i H hi _ => hi) (fun i H hi p x H' y => by obtain ⟨rfl, rfl⟩ := y; exact hs i _ hi p) (fun H _ => Nat.le_refl n) hd
theorem gx_list {K : PySem.W.Frag} {a : Addr} {xs : List V} (Pv : Nat → Hp → Prop) (h0 : Pv 0 H2) (hl : ∀ i H, Pv i H → SqL K H a xs) (hs : ∀ i x H, xs[i]? = some x → Pv i H → g x (wipe σ vs) H (GxStep kp tt te vs σ Q (Pv (i + 1)))) (hd : ∀ H, Pv xs.length H → Q (.bl kp) H) :
    ∃ W : Nat → Nat → Hp → Prop, (∃ m, W 0 m H2) ∧ GxTurn kp (Itl K a) g tt te vs σ Q W :=
  gx_by (n := xs.length) Pv h0 (fun i H hi p => ⟨xs, xs[i], hl i H p, by simp [hi]⟩) (fun i H hi p x H' y => by obtain ⟨rfl, y⟩ := y; exact hs i x _ (y xs (hl i _ p)) p) (fun H p => ⟨xs, hl _ H p, Nat.le_refl _⟩) hd
theorem gx_tup {K : PySem.W.Frag} {a : Addr} {xs : List V} (Pv : Nat → Hp → Prop) (h0 : Pv 0 H2) (hl : ∀ i H, Pv i H → SqT K H a xs) (hs : ∀ i x H, xs[i]? = some x → Pv i H → g x (wipe σ vs) H (GxStep kp tt te vs σ Q (Pv (i + 1)))) (hd : ∀ H, Pv xs.length H → Q (.bl kp) H) :
    ∃ W : Nat → Nat → Hp → Prop, (∃ m, W 0 m H2) ∧ GxTurn kp (Itt K a) g tt te vs σ Q W :=
  gx_by (n := xs.length) Pv h0 (fun i H hi p => ⟨xs, xs[i], hl i H p, by simp [hi]⟩) (fun i H hi p x H' y => by obtain ⟨rfl, y⟩ := y; exact hs i x _ (y xs (hl i _ p)) p) (fun H p => ⟨xs, hl _ H p, Nat.le_refl _⟩) hd
theorem gx_str {x : Str} (Pv : Nat → Hp → Prop) (h0 : Pv 0 H2) (hs : ∀ i c H, x.cps.toList[i]? = some c → Pv i H → g (.str ⟨#[c]⟩) (wipe σ vs) H (GxStep kp tt te vs σ Q (Pv (i + 1)))) (hd : ∀ H, Pv x.cps.toList.length H → Q (.bl kp) H) :
    ∃ W : Nat → Nat → Hp → Prop, (∃ m, W 0 m H2) ∧ GxTurn kp (Its x) g tt te vs σ Q W :=
  gx_by (n := x.cps.toList.length) Pv h0 (fun i H hi p => by show i < x.cps.size; simpa using hi) (fun i H hi p v H' y => by
    obtain ⟨rfl, c, e, rfl⟩ := y
    exact hs i c _ (by simpa using e) p) (fun H p => by show x.cps.size ≤ _; simp) hd
end
end Zk

set_option maxHeartbeats 4000000
/-! D0: the deck that a law draws from, as it stands in the heap; sizes of what repr shows. No text of a program here. -/
namespace Zk
open PySem PySem.Spec PyProof.Rows L2

/-! ### small things -/
theorem same_new {H : Hp} {p : Addr} (h : H p = none) (o : HO) : Same H (upd H p o) := fun b u q => by
  rw [upd_ne (ne_of_none q h)]
  exact q
/-- both heaps get the same new object -/
theorem same_both {H0 H : Hp} {p : Addr} (e : Same H0 H) (o : HO) : Same (upd H0 p o) (upd H p o) := fun b u q => by
  by_cases hb : b = p
  · subst hb
    rw [upd_same] at q ⊢
    exact q
  · rw [upd_ne hb] at q ⊢
    exact e _ _ q
theorem same_out {H0 H : Hp} {p : Addr} (e : Same H0 H) (h : H0 p = none) (o : HO) : Same H0 (upd H p o) := fun b u q => by
  rw [upd_ne (ne_of_none q h)]
  exact e _ _ q
theorem sl_small {n : Nat} (h : n ≤ 100000) : n ≤ sizeLine := Nat.le_trans h (by decide)
theorem sl_lt {n : Nat} (h : n < 100000) : n < sizeLine := Nat.lt_of_lt_of_le h (by decide)
theorem ints_dp {K : PySem.W.Frag} {H : Hp} {a : Addr} {ns : List Int} (h : H a = some (.lst (ns.map V.int))) : Dp K H (.ref a) (.list (ns.map PyData.int)) := by
  refine .lst (SqL.of h) ?_
  clear h
  induction ns with
  | nil => exact .nil
  | cons n r ih => exact .cons (.int n) ih
theorem ints_lay : ∀ ns : List Int, PyData.canLayAll0 (ns.map PyData.int) = true
  | [] => by simp [PyData.canLayAll0]
  | n :: r => by simp [PyData.canLayAll0, PyData.canLay0, ints_lay r]
theorem ints_depth : ∀ ns : List Int, PyData.depthAll (ns.map PyData.int) = 0
  | [] => by simp [PyData.depthAll]
  | n :: r => by simp [PyData.depthAll, PyData.depth, ints_depth r]
theorem ints_shaped (ns : List Int) : SeqAt.shaped (.list (ns.map PyData.int)) = true := by
  simp [SeqAt.shaped, PyData.canLay0, ints_lay, PyData.depth, ints_depth]
theorem eqv_nil : ∀ ns : List Int, PyData.eqv (.list (ns.map PyData.int)) (.list []) = ns.isEmpty
  | [] => by simp [PyData.eqv, PyData.eqvAll]
  | n :: r => by simp [PyData.eqv, PyData.eqvAll]

/-! ### the deck -/
def deckL (lf : Addr) (mixed draws : Int) : List (Key × V) := [(.inr ("left" : Str), .ref lf), (.inr ("mixed" : Str), .int mixed), (.inr ("draws" : Str), .int draws)]
theorem k_lm : ¬ (Sum.inr ("left" : Str) : Key) = Sum.inr ("mixed" : Str) := by decide +kernel
theorem k_ld : ¬ (Sum.inr ("left" : Str) : Key) = Sum.inr ("draws" : Str) := by decide +kernel
theorem k_md : ¬ (Sum.inr ("mixed" : Str) : Key) = Sum.inr ("draws" : Str) := by decide +kernel
theorem k_dm : ¬ (Sum.inr ("draws" : Str) : Key) = Sum.inr ("mixed" : Str) := by decide +kernel
section
variable {lf : Addr} {m d x : Int}
theorem deck_left : valV (deckL lf m d) (.inr ("left" : Str)) = some (.ref lf) := valV_pos rfl
theorem deck_mixed : valV (deckL lf m d) (.inr ("mixed" : Str)) = some (.int m) := (valV_neg k_lm).trans (valV_pos rfl)
theorem deck_draws : valV (deckL lf m d) (.inr ("draws" : Str)) = some (.int d) := (valV_neg k_ld).trans ((valV_neg k_md).trans (valV_pos rfl))
theorem put_mixed : putK (deckL lf m d) (.inr ("mixed" : Str)) (.int x) = deckL lf x d := by
  have h : ((deckL lf m d).any fun kv => decide (kv.1 = Sum.inr ("mixed" : Str))) = true := by
    rw [valV_any, deck_mixed]
    rfl
  unfold putK
  rw [if_pos h]
  unfold deckL
  simp only [List.map_cons, List.map_nil, if_neg k_lm, if_neg k_dm, if_true]
theorem put_draws : putK (deckL lf m d) (.inr ("draws" : Str)) (.int x) = deckL lf m x := by
  have h : ((deckL lf m d).any fun kv => decide (kv.1 = Sum.inr ("draws" : Str))) = true := by
    rw [valV_any, deck_draws]
    rfl
  unfold putK
  rw [if_pos h]
  unfold deckL
  simp only [List.map_cons, List.map_nil, if_neg k_ld, if_neg k_md, if_true]
end
/-- a deck stands at dk in H, its list at lf, that has been drawn from at most B times; H0 is what else stands there and does not change -/
structure DeckAt (H0 H : Hp) (dk lf : Addr) (B : Nat) : Prop where
  same : Same H0 H
  off : H0 dk = none
  offl : H0 lf = none
  ex : ∃ (left : List Int) (mixed draws : Int), H dk = some (.dK (deckL lf mixed draws)) ∧ H lf = some (.lst (left.map V.int)) ∧ left.length ≤ 63 ∧ 0 ≤ mixed ∧ mixed < 2 ^ 31 ∧ 0 ≤ draws ∧ draws ≤ B
/-- what a step from H (of it H0 unchanging) to H' (of it H0' unchanging) may do beside the deck: lay new things -/
structure Grow (dk lf : Addr) (H0 H H0' H' : Hp) : Prop where
  same : Same H0 H0'
  frame : ∀ b o, b ≠ dk → b ≠ lf → H b = some o → H' b = some o
  fresh : ∀ b o, H b = some o → H0' b = H0 b
section
variable {H0 H H1 H2 H0' H0'' H' H'' : Hp} {dk lf p : Addr} {B B' : Nat} {o : HO}
theorem DeckAt.at_d (h : DeckAt H0 H dk lf B) : ∃ o, H dk = some o := by
  obtain ⟨_, _, _, e, _⟩ := h.ex
  exact ⟨_, e⟩
theorem DeckAt.at_l (h : DeckAt H0 H dk lf B) : ∃ o, H lf = some o := by
  obtain ⟨_, _, _, _, e, _⟩ := h.ex
  exact ⟨_, e⟩
theorem DeckAt.ned (h : DeckAt H0 H dk lf B) (hp : H p = none) : dk ≠ p := by
  obtain ⟨_, e⟩ := h.at_d
  exact ne_of_none e hp
theorem DeckAt.nel (h : DeckAt H0 H dk lf B) (hp : H p = none) : lf ≠ p := by
  obtain ⟨_, e⟩ := h.at_l
  exact ne_of_none e hp
theorem DeckAt.mono (h : DeckAt H0 H dk lf B) (hb : B ≤ B') : DeckAt H0 H dk lf B' := by
  obtain ⟨left, m, d, h1, h2, h3, h4, h5, h6, h7⟩ := h.ex
  exact ⟨h.same, h.off, h.offl, left, m, d, h1, h2, h3, h4, h5, h6, by omega⟩
/-- the deck's own two objects are as they were, what stands still stands -/
theorem DeckAt.move (h : DeckAt H0 H dk lf B) (s : Same H0' H') (e1 : H0' dk = none) (e2 : H0' lf = none) (d1 : H' dk = H dk) (d2 : H' lf = H lf) : DeckAt H0' H' dk lf B :=
  ⟨s, e1, e2, by rw [d1, d2]; exact h.ex⟩
/-- something new beside the deck -/
theorem DeckAt.new (h : DeckAt H0 H dk lf B) (hp : H p = none) : DeckAt (upd H0 p o) (upd H p o) dk lf B :=
  h.move (same_both h.same o) ((upd_ne (h.ned hp)).trans h.off) ((upd_ne (h.nel hp)).trans h.offl) (upd_ne (h.ned hp)) (upd_ne (h.nel hp))
/-- something new that may change later -/
theorem DeckAt.drop (h : DeckAt H0 H dk lf B) (hp : H p = none) : DeckAt H0 (upd H p o) dk lf B :=
  h.move (h.same.trans (same_new hp o)) h.off h.offl (upd_ne (h.ned hp)) (upd_ne (h.nel hp))
/-- something of our own, not among what stands still, changes -/
theorem DeckAt.change (h : DeckAt H0 H dk lf B) (n : H0 p = none) (n1 : dk ≠ p) (n2 : lf ≠ p) : DeckAt H0 (upd H p o) dk lf B :=
  h.move (same_out h.same n o) h.off h.offl (upd_ne n1) (upd_ne n2)
/-- .. and stands still from here on -/
theorem DeckAt.keep (h : DeckAt H0 H dk lf B) (e : H p = some o) (n1 : dk ≠ p) (n2 : lf ≠ p) : DeckAt (upd H0 p o) H dk lf B := by
  refine h.move (fun b u q => ?_) ((upd_ne n1).trans h.off) ((upd_ne n2).trans h.offl) rfl rfl
  by_cases hb : b = p
  · subst hb
    rw [upd_same] at q
    exact q ▸ e
  · rw [upd_ne hb] at q
    exact h.same _ _ q
theorem DeckAt.free (h : DeckAt H0 H dk lf B) (hp : H p = none) : H0 p = none := h.same.free hp
theorem Grow.refl : Grow dk lf H0 H H0 H := ⟨Same.refl _, fun _ _ _ _ e => e, fun _ _ _ => rfl⟩
theorem Grow.trans (a : Grow dk lf H0 H H0' H') (_ : DeckAt H0 H dk lf B) (h' : DeckAt H0' H' dk lf B') (b : Grow dk lf H0' H' H0'' H'') : Grow dk lf H0 H H0'' H'' where
  same := a.same.trans b.same
  frame := fun x o n1 n2 e => b.frame x o n1 n2 (a.frame x o n1 n2 e)
  fresh := fun x o e => by
    by_cases n1 : x = dk
    · obtain ⟨_, q⟩ := h'.at_d
      rw [b.fresh x _ (n1 ▸ q), a.fresh x o e]
    · by_cases n2 : x = lf
      · obtain ⟨_, q⟩ := h'.at_l
        rw [b.fresh x _ (n2 ▸ q), a.fresh x o e]
      · rw [b.fresh x o (a.frame x o n1 n2 e), a.fresh x o e]
theorem Grow.new (h : DeckAt H0 H dk lf B) (hp : H p = none) : Grow dk lf H0 H (upd H0 p o) (upd H p o) where
  same := same_new (h.free hp) o
  frame := fun b u _ _ e => same_new hp o _ _ e
  fresh := fun b u e => upd_ne (ne_of_none e hp)
theorem Grow.upd' (g : Grow dk lf H0 H H0' H') (n : H p = none) : Grow dk lf H0 H H0' (upd H' p o) := ⟨g.same, fun b u n1 n2 e => (upd_ne (ne_of_none e n)).trans (g.frame b u n1 n2 e), g.fresh⟩
/-- what is new stands still from here on -/
theorem Grow.keep (g : Grow dk lf H0 H H0' H') (n : H p = none) (n0 : H0' p = none) : Grow dk lf H0 H (upd H0' p o) H' :=
  ⟨g.same.trans (same_new n0 o), g.frame, fun b u e => (upd_ne (ne_of_none e n)).trans (g.fresh b u e)⟩
theorem Grow.drop (hp : H p = none) : Grow dk lf H0 H H0 (upd H p o) := ⟨Same.refl _, fun _ _ _ _ e => same_new hp o _ _ e, fun _ _ _ => rfl⟩
end

/-! ### how much repr shows -/
theorem list_len : ∀ ts : List Str, (listText ts).length ≤ piled ts + 2
  | [] => by decide +kernel
  | t :: r => by
    have h := textFrom_length_pos r 1 (("[" : Str) ++ (if (0 : Nat) > 0 then ", " else "" : String) ++ t) (Nat.succ_pos 0)
    have e1 : (listText (t :: r)).length = (textFrom 1 (("[" : Str) ++ (if (0 : Nat) > 0 then ", " else "" : String) ++ t) r).length + 1 := strLen_append _ _
    have e2 : (("[" : Str) ++ (if (0 : Nat) > 0 then ", " else "" : String) ++ t).length = 1 + t.length := by
      rw [strLen_append, strLen_append]
      rfl
    rw [e1, h, e2, piled_cons]
    omega
theorem tuple_len (ts : List Str) : (tupleText ts).length ≤ piled ts + 2 := fmt_text ts
theorem dict_len (ts : List Str) : (dictText ts).length ≤ piled ts + 2 := by
  have e : (dictText ts).length = 1 + (Str.join ", " ts).length + 1 := by
    unfold dictText
    rw [strLen_append, strLen_append]
    rfl
  by_cases h : ts = []
  · subst h
    decide +kernel
  · have := join_length_add ts h
    omega
theorem piled_le {n : Nat} : ∀ {ts : List Str}, (∀ t ∈ ts, t.length ≤ n) → piled ts ≤ ts.length * (n + 2)
  | [], _ => Nat.zero_le _
  | t :: r, h => by
    have h1 := h t List.mem_cons_self
    have h2 := piled_le fun u hu => h u (List.mem_cons_of_mem _ hu)
    rw [piled_cons, List.length_cons, Nat.succ_mul]
    omega
theorem shownAll_len : ∀ ds : List PyData, (PyData.shownAll ds).length = ds.length
  | [] => by simp [PyData.shownAll]
  | d :: r => by simp [PyData.shownAll, shownAll_len r]
theorem shownAll_mem {t : Str} : ∀ {ds : List PyData}, t ∈ PyData.shownAll ds → ∃ d ∈ ds, t = d.shown
  | [], h => by simp [PyData.shownAll] at h
  | d :: r, h => by
    simp only [PyData.shownAll, List.mem_cons] at h
    rcases h with h | h
    · exact ⟨d, List.mem_cons_self, h⟩
    · obtain ⟨e, he, q⟩ := shownAll_mem h
      exact ⟨e, List.mem_cons_of_mem _ he, q⟩
theorem showAll_of : ∀ {ds : List PyData}, (∀ d ∈ ds, d.showable = true) → PyData.showableAll ds = true
  | [], _ => by simp [PyData.showableAll]
  | d :: r, h => by
    simp only [PyData.showableAll, h d List.mem_cons_self, Bool.true_and]
    exact showAll_of fun e he => h e (List.mem_cons_of_mem _ he)
theorem depthAll_of {n : Nat} : ∀ {ds : List PyData}, (∀ d ∈ ds, d.depth ≤ n) → PyData.depthAll ds ≤ n
  | [], _ => by simp [PyData.depthAll]
  | d :: r, h => by
    have h1 := h d List.mem_cons_self
    have h2 := depthAll_of fun e he => h e (List.mem_cons_of_mem _ he)
    simp only [PyData.depthAll]
    omega
/-- d may be shown: at most dp deep, in at most ln signs -/
structure Fine (dp ln : Nat) (d : PyData) : Prop where
  able : d.showable = true
  deep : d.depth ≤ dp
  long : d.shown.length ≤ ln
theorem Fine.mono {a b a' b' : Nat} {d : PyData} (h : Fine a b d) (h1 : a ≤ a') (h2 : b ≤ b') : Fine a' b' d := ⟨h.able, Nat.le_trans h.deep h1, Nat.le_trans h.long h2⟩
theorem fine_list {a b : Nat} {ds : List PyData} (h : ∀ d ∈ ds, Fine a b d) : Fine (a + 1) (ds.length * (b + 2) + 2) (.list ds) where
  able := by simpa [PyData.showable] using showAll_of fun d hd => (h d hd).able
  deep := by
    have := depthAll_of fun d hd => (h d hd).deep
    simp only [PyData.depth]
    omega
  long := by
    have h1 := list_len (PyData.shownAll ds)
    have h2 := piled_le (ts := PyData.shownAll ds) (n := b) fun t ht => by
      obtain ⟨d, hd, e⟩ := shownAll_mem ht
      exact e ▸ (h d hd).long
    rw [shownAll_len] at h2
    simp only [PyData.shown]
    omega
theorem fine_tup {a b : Nat} {ds : List PyData} (h : ∀ d ∈ ds, Fine a b d) : Fine (a + 1) (ds.length * (b + 2) + 2) (.tuple ds) where
  able := by simpa [PyData.showable] using showAll_of fun d hd => (h d hd).able
  deep := by
    have := depthAll_of fun d hd => (h d hd).deep
    simp only [PyData.depth]
    omega
  long := by
    have h1 := tuple_len (PyData.shownAll ds)
    have h2 := piled_le (ts := PyData.shownAll ds) (n := b) fun t ht => by
      obtain ⟨d, hd, e⟩ := shownAll_mem ht
      exact e ▸ (h d hd).long
    rw [shownAll_len] at h2
    simp only [PyData.shown]
    omega
theorem fine_dict2 {a b : Nat} {k : Str} {i j : Int} {d : PyData} (hk : ∀ c ∈ k.cps.toList, c < 16 ^ 8) (hi : i.natAbs.log2 < 1920) (hj : j.natAbs.log2 < 1920) (h : Fine a b d) : Fine (a + 1) (10 * k.length + b + 4000) (.dict [(.str k, d), (.int i, .int j)]) where
  able := by simp [PyData.showable, PyData.showableKv, h.able, hi, hj]
  deep := by
    have := h.deep
    simp only [PyData.depth, PyData.depthKv]
    omega
  long := by
    have h1 := StrLaws.reprText_len k hk
    have h2 := h.long
    have e1 : (Str.ofString (toString i)).length ≤ 1921 := by
      rw [PySem.ofString_length]
      exact int_text_length_le (by decide) hi
    have e2 : (Str.ofString (toString j)).length ≤ 1921 := by
      rw [PySem.ofString_length]
      exact int_text_length_le (by decide) hj
    have e3 : ((": " : Str)).length = 2 := rfl
    simp only [PyData.shown, PyData.shownKv]
    refine Nat.le_trans (dict_len _) ?_
    simp only [piled_cons, piled_nil, strLen_append, e3]
    omega
theorem fine_int {i : Int} (h : i.natAbs.log2 < 1920) : Fine 0 1921 (.int i) where
  able := by simpa [PyData.showable] using h
  deep := by simp [PyData.depth]
  long := by
    simp only [PyData.shown]
    rw [PySem.ofString_length]
    exact int_text_length_le (by decide) h
theorem fine_bool (b : Bool) : Fine 0 5 (.bool b) := by
  refine ⟨by simp [PyData.showable], by simp [PyData.depth], ?_⟩
  cases b <;> (simp only [PyData.shown]; decide +kernel)
theorem fine_none : Fine 0 4 .none := ⟨by simp [PyData.showable], by simp [PyData.depth], by simp only [PyData.shown]; decide +kernel⟩
theorem fine_str {x : Str} (h : ∀ c ∈ x.cps.toList, c < 16 ^ 8) : Fine 0 (10 * x.length + 2) (.str x) :=
  ⟨by simp [PyData.showable], by simp [PyData.depth], by simpa only [PyData.shown] using StrLaws.reprText_len x h⟩
end Zk

set_option autoImplicit false
/-! M0: polynomials as lists of pairs: sums of pairs, their order, their values. -/
namespace Zk
abbrev IQ := Int × Int
/-- the sum of the values at e -/
def coef (ps : List IQ) (e : Int) : Int := ((ps.filter fun x => decide (x.1 = e)).map (·.2)).sum
def addK (d : List IQ) (e c : Int) : List IQ := if (d.any fun x => decide (x.1 = e)) = true then d.map fun x => if x.1 = e then (e, x.2 + c) else x else d ++ [(e, c)]
def getK (d : List IQ) (e : Int) : Option Int := (d.find? fun x => decide (x.1 = e)).map (·.2)
def setK (d : List IQ) (e v : Int) : List IQ := if (d.any fun x => decide (x.1 = e)) = true then d.map fun x => if x.1 = e then (e, v) else x else d ++ [(e, v)]
def accP (ps : List IQ) : List IQ := ps.foldl (fun d x => addK d x.1 x.2) []
def Asc (ys : List IQ) : Prop := ys.Pairwise fun x y => x.1 < y.1
/-- the sum of pairs, in order -/
def Canon (ps ys : List IQ) : Prop := ys.Perm (accP ps) ∧ Asc ys
theorem any_key {d : List IQ} {e : Int} : (d.any fun x => decide (x.1 = e)) = true ↔ e ∈ d.map (·.1) := by
  rw [List.any_eq_true, List.mem_map]
  exact ⟨fun ⟨x, h, k⟩ => ⟨x, h, of_decide_eq_true k⟩, fun ⟨x, h, k⟩ => ⟨x, h, decide_eq_true k⟩⟩
theorem setK_keys (d : List IQ) (e v : Int) : (setK d e v).map (·.1) = if e ∈ d.map (·.1) then d.map (·.1) else d.map (·.1) ++ [e] := by
  unfold setK
  by_cases h : (d.any fun x => decide (x.1 = e)) = true
  · rw [if_pos h, if_pos (any_key.mp h), List.map_map]
    refine List.map_congr_left fun x _ => ?_
    show (if x.1 = e then (e, v) else x).1 = x.1
    split
    · next q => exact q.symm
    · rfl
  · rw [if_neg h, if_neg fun q => h (any_key.mpr q), List.map_append]
    rfl
theorem setK_nodup {d : List IQ} {e v : Int} (h : (d.map (·.1)).Nodup) : ((setK d e v).map (·.1)).Nodup := by
  rw [setK_keys]
  split
  · exact h
  · next q => exact List.nodup_append.mpr ⟨h, by simp, fun a ha b hb => by
      rw [List.mem_singleton.mp hb]
      intro z
      exact q (z ▸ ha)⟩
theorem setK_len (d : List IQ) (e v : Int) : (setK d e v).length ≤ d.length + 1 := by
  have := congrArg List.length (setK_keys d e v)
  rw [List.length_map] at this
  split at this <;> simp at this <;> omega
theorem setK_mem {d : List IQ} {e v : Int} {x : IQ} (h : x ∈ setK d e v) : x = (e, v) ∨ x ∈ d := by
  unfold setK at h
  split at h
  · obtain ⟨y, hy, q⟩ := List.mem_map.mp h
    split at q
    · exact .inl q.symm
    · exact .inr (q ▸ hy)
  · rcases List.mem_append.mp h with h | h
    · exact .inr h
    · exact .inl (List.mem_singleton.mp h)
theorem getK_some {d : List IQ} {e v : Int} (h : getK d e = some v) : (e, v) ∈ d := by
  unfold getK at h
  cases q : d.find? fun x => decide (x.1 = e) with
  | none => rw [q] at h; cases h
  | some x =>
    rw [q] at h
    have h1 := List.find?_some q
    have h2 := List.mem_of_find?_eq_some q
    obtain ⟨a, b⟩ := x
    have h1 : a = e := of_decide_eq_true h1
    have h : b = v := Option.some.inj h
    subst h1 h
    exact h2
theorem getK_none {d : List IQ} {e : Int} (h : getK d e = none) : e ∉ d.map (·.1) := fun q => by
  unfold getK at h
  rw [Option.map_eq_none_iff, List.find?_eq_none] at h
  obtain ⟨x, hx, k⟩ := List.mem_map.mp q
  exact h x hx (decide_eq_true k)
theorem nodup_eq {d : List IQ} (h : (d.map (·.1)).Nodup) {e a b : Int} (h1 : (e, a) ∈ d) (h2 : (e, b) ∈ d) : a = b := by
  induction d with
  | nil => cases h1
  | cons x d ih =>
    rw [List.map_cons, List.nodup_cons] at h
    rcases List.mem_cons.mp h1 with q1 | q1 <;> rcases List.mem_cons.mp h2 with q2 | q2
    · exact (Prod.mk.inj (q1.trans q2.symm)).2
    · exact absurd (List.mem_map.mpr ⟨_, q2, by rw [← q1]⟩) h.1
    · exact absurd (List.mem_map.mpr ⟨_, q1, by rw [← q2]⟩) h.1
    · exact ih h.2 q1 q2
/-- found[e] = found.get(e, 0) + c -/
theorem addK_set {d : List IQ} {e c : Int} (h : (d.map (·.1)).Nodup) : addK d e c = setK d e ((getK d e).getD 0 + c) := by
  unfold addK setK
  cases q : getK d e with
  | some v =>
    have m := getK_some q
    by_cases k : (d.any fun x => decide (x.1 = e)) = true
    · rw [if_pos k, if_pos k]
      refine List.map_congr_left fun x hx => ?_
      by_cases z : x.1 = e
      · rw [if_pos z, if_pos z]
        have : x.2 = v := nodup_eq h (e := e) (by rw [← z]; exact hx) m
        rw [this]
        rfl
      · rw [if_neg z, if_neg z]
    · exact absurd (any_key.mpr (List.mem_map.mpr ⟨_, m, rfl⟩)) k
  | none =>
    have n := getK_none q
    have k : ¬ (d.any fun x => decide (x.1 = e)) = true := fun z => n (any_key.mp z)
    rw [if_neg k, if_neg k]
    show d ++ [(e, c)] = d ++ [(e, 0 + c)]
    rw [Int.zero_add]

/-! ### what the pairs come to -/
theorem addK_keys (d : List IQ) (e c : Int) : (addK d e c).map (·.1) = if e ∈ d.map (·.1) then d.map (·.1) else d.map (·.1) ++ [e] := by
  unfold addK
  by_cases h : (d.any fun x => decide (x.1 = e)) = true
  · rw [if_pos h, if_pos (any_key.mp h), List.map_map]
    refine List.map_congr_left fun x _ => ?_
    show (if x.1 = e then (e, x.2 + c) else x).1 = x.1
    split
    · next q => exact q.symm
    · rfl
  · rw [if_neg h, if_neg fun q => h (any_key.mpr q), List.map_append]
    rfl
theorem addK_nodup {d : List IQ} {e c : Int} (h : (d.map (·.1)).Nodup) : ((addK d e c).map (·.1)).Nodup := by
  rw [addK_set h]
  exact setK_nodup h
theorem addK_len {d : List IQ} (e c : Int) (h : (d.map (·.1)).Nodup) : (addK d e c).length ≤ d.length + 1 := by
  rw [addK_set h]
  exact setK_len d e _
/-- a property of the pairs that sums keep -/
theorem addK_all {d : List IQ} {e c : Int} {p : IQ → Prop} (hd : ∀ x ∈ d, p x) (h0 : p (e, c)) (hs : ∀ b, p (e, b) → p (e, b + c)) : ∀ x ∈ addK d e c, p x := fun x hx => by
  unfold addK at hx
  split at hx
  · obtain ⟨y, hy, q⟩ := List.mem_map.mp hx
    split at q
    · next z =>
      have := hd y hy
      obtain ⟨a, b⟩ := y
      have z : a = e := z
      subst z
      rw [← q]
      exact hs b this
    · rw [← q]
      exact hd y hy
  · rcases List.mem_append.mp hx with hx | hx
    · exact hd x hx
    · rw [List.mem_singleton.mp hx]
      exact h0
theorem sum_map_perm {α : Type} (f : α → Int) {a b : List α} (h : a.Perm b) : (a.map f).sum = (b.map f).sum := by
  induction h with
  | nil => rfl
  | cons x _ ih => simp only [List.map_cons, List.sum_cons, ih]
  | swap x y l =>
    simp only [List.map_cons, List.sum_cons]
    omega
  | trans _ _ h1 h2 => rw [h1, h2]
theorem sum_map_add {α : Type} (f : α → Int) (a b : List α) : ((a ++ b).map f).sum = (a.map f).sum + (b.map f).sum := by
  induction a with
  | nil => simp
  | cons x a ih =>
    simp only [List.cons_append, List.map_cons, List.sum_cons, ih]
    omega
/-- a sum over the pairs that is linear in the coefficient -/
def lin (f : Int → Int) (ps : List IQ) : Int := (ps.map fun x => x.2 * f x.1).sum
theorem lin_perm (f : Int → Int) {a b : List IQ} (h : a.Perm b) : lin f a = lin f b := sum_map_perm _ h
theorem lin_app (f : Int → Int) (a b : List IQ) : lin f (a ++ b) = lin f a + lin f b := sum_map_add _ a b
theorem lin_cons (f : Int → Int) (x : IQ) (a : List IQ) : lin f (x :: a) = x.2 * f x.1 + lin f a := by simp [lin]
theorem lin_addK (f : Int → Int) : ∀ {d : List IQ} {e c : Int}, (d.map (·.1)).Nodup → lin f (addK d e c) = lin f d + c * f e
  | d, e, c, h => by
    unfold addK
    by_cases k : (d.any fun x => decide (x.1 = e)) = true
    · rw [if_pos k]
      induction d with
      | nil => simp at k
      | cons x d ih =>
        rw [List.map_cons, List.nodup_cons] at h
        rw [List.map_cons, lin_cons, lin_cons]
        by_cases z : x.1 = e
        · rw [if_pos z]
          have e1 : (d.map fun x => if x.1 = e then (e, x.2 + c) else x) = d := by
            rw [List.map_congr_left (g := id), List.map_id]
            intro y hy
            have : y.1 ≠ e := fun q => h.1 (List.mem_map.mpr ⟨y, hy, by rw [q, z]⟩)
            rw [if_neg this]
            rfl
          rw [e1]
          show (x.2 + c) * f e + _ = _
          rw [Int.add_mul, z]
          omega
        · rw [if_neg z]
          have k' : (d.any fun x => decide (x.1 = e)) = true := by
            rw [List.any_cons, decide_eq_false z, Bool.false_or] at k
            exact k
          rw [ih h.2 k']
          omega
    · rw [if_neg k, lin_app]
      simp [lin]
theorem acc_inv (ps : List IQ) : ∀ d : List IQ, (d.map (·.1)).Nodup → ((ps.foldl (fun d x => addK d x.1 x.2) d).map (·.1)).Nodup ∧ (ps.foldl (fun d x => addK d x.1 x.2) d).length ≤ d.length + ps.length ∧
    (∀ f, lin f (ps.foldl (fun d x => addK d x.1 x.2) d) = lin f d + lin f ps) ∧ ∀ e, e ∈ (ps.foldl (fun d x => addK d x.1 x.2) d).map (·.1) ↔ e ∈ d.map (·.1) ∨ e ∈ ps.map (·.1) := by
  induction ps with
  | nil => exact fun d h => ⟨h, Nat.le_refl _, fun f => by simp [lin], fun e => by simp⟩
  | cons x ps ih =>
    intro d h
    obtain ⟨h1, h2, h3, h4⟩ := ih (addK d x.1 x.2) (addK_nodup h)
    have hl := addK_len x.1 x.2 h
    refine ⟨h1, by rw [List.foldl_cons, List.length_cons]; omega, fun f => ?_, fun e => ?_⟩
    · rw [List.foldl_cons, h3, lin_addK f h, lin_cons]
      omega
    · rw [List.foldl_cons, h4, addK_keys]
      simp only [List.map_cons, List.mem_cons]
      split
      · next q => exact ⟨fun z => z.elim .inl fun z => .inr (.inr z), fun z => z.elim .inl fun z => z.elim (fun z => .inl (z ▸ q)) .inr⟩
      · simp only [List.mem_append, List.mem_singleton]
        exact ⟨fun z => z.elim (fun z => z.elim .inl fun z => .inr (.inl z)) fun z => .inr (.inr z), fun z => z.elim (fun z => .inl (.inl z)) fun z => z.elim (fun z => .inl (.inr z)) .inr⟩
theorem acc_nodup (ps : List IQ) : ((accP ps).map (·.1)).Nodup := (acc_inv ps [] List.nodup_nil).1
theorem acc_len (ps : List IQ) : (accP ps).length ≤ ps.length := by
  have := (acc_inv ps [] List.nodup_nil).2.1
  simpa [accP] using this
theorem acc_lin (f : Int → Int) (ps : List IQ) : lin f (accP ps) = lin f ps := by
  have := (acc_inv ps [] List.nodup_nil).2.2.1 f
  simpa [accP, lin] using this
theorem acc_keys (ps : List IQ) (e : Int) : e ∈ (accP ps).map (·.1) ↔ e ∈ ps.map (·.1) := by
  have := (acc_inv ps [] List.nodup_nil).2.2.2 e
  simpa [accP] using this
theorem acc_all {p : IQ → Prop} (hs : ∀ e b c, p (e, b) → p (e, c) → p (e, b + c)) (ps : List IQ) (h : ∀ x ∈ ps, p x) : ∀ x ∈ accP ps, p x := by
  have : ∀ d : List IQ, (∀ x ∈ d, p x) → ∀ x ∈ ps.foldl (fun d x => addK d x.1 x.2) d, p x := by
    induction ps with
    | nil => exact fun d h => h
    | cons y ps ih =>
      intro d hd
      rw [List.foldl_cons]
      exact ih (fun x hx => h x (List.mem_cons_of_mem _ hx)) _ (addK_all hd (h y List.mem_cons_self) fun b hb => hs _ _ _ hb (h y List.mem_cons_self))
  exact this [] (fun x hx => absurd hx List.not_mem_nil)
/-- what stands at e -/
def at1 (e : Int) : Int → Int := fun k => if k = e then 1 else 0
theorem lin_at {d : List IQ} (h : (d.map (·.1)).Nodup) {e c : Int} (m : (e, c) ∈ d) : lin (at1 e) d = c := by
  induction d with
  | nil => cases m
  | cons x d ih =>
    rw [List.map_cons, List.nodup_cons] at h
    rw [lin_cons]
    rcases List.mem_cons.mp m with q | q
    · have z : lin (at1 e) d = 0 := by
        have : ∀ l : List IQ, (∀ y ∈ l, y.1 ≠ e) → lin (at1 e) l = 0 := fun l => by
          induction l with
          | nil => intro _; rfl
          | cons y l ih =>
            intro hl
            rw [lin_cons, ih fun z hz => hl z (List.mem_cons_of_mem _ hz)]
            show y.2 * (if y.1 = e then 1 else 0) + 0 = 0
            rw [if_neg (hl y List.mem_cons_self)]
            simp
        exact this d fun y hy k => h.1 (List.mem_map.mpr ⟨y, hy, by rw [k, ← q]⟩)
      rw [z, ← q]
      show c * (if e = e then 1 else 0) + 0 = c
      rw [if_pos rfl]
      omega
    · have : x.1 ≠ e := fun k => h.1 (List.mem_map.mpr ⟨_, q, k.symm⟩)
      show x.2 * (if x.1 = e then 1 else 0) + _ = c
      rw [if_neg this, ih h.2 q]
      omega
theorem asc_nodup {ys : List IQ} (h : Asc ys) : (ys.map (·.1)).Nodup := by
  rw [List.Nodup, List.pairwise_map]
  exact h.imp fun q z => by omega
theorem asc_uniq : ∀ {a b : List IQ}, Asc a → Asc b → a.Perm b → a = b
  | [], b, _, _, h => (List.Perm.eq_nil h.symm).symm
  | x :: a, [], _, _, h => absurd h.length_eq (by simp)
  | x :: a, y :: b, ha, hb, h => by
    have hx : x ∈ y :: b := h.mem_iff.mp List.mem_cons_self
    have hy : y ∈ x :: a := h.mem_iff.mpr List.mem_cons_self
    have e : x = y := by
      rcases List.mem_cons.mp hx with q | q
      · exact q
      · rcases List.mem_cons.mp hy with q2 | q2
        · exact q2.symm
        · have h1 := (List.pairwise_cons.mp hb).1 x q
          have h2 := (List.pairwise_cons.mp ha).1 y q2
          omega
    subst e
    rw [asc_uniq (List.pairwise_cons.mp ha).2 (List.pairwise_cons.mp hb).2 h.cons_inv]
/-- lists of the same pairs have one sum -/
theorem canon_uniq {ps qs a b : List IQ} (h : ps.Perm qs) (ha : Canon ps a) (hb : Canon qs b) : a = b := by
  refine asc_uniq ha.2 hb.2 (ha.1.trans (List.Perm.trans ?_ hb.1.symm))
  have sub : ∀ {ps qs : List IQ}, ps.Perm qs → ∀ x, x ∈ accP ps → x ∈ accP qs := fun {ps qs} h x hx => by
    have hk : x.1 ∈ (accP qs).map (·.1) := by
      rw [acc_keys, ← (h.map (·.1)).mem_iff, ← acc_keys]
      exact List.mem_map.mpr ⟨x, hx, rfl⟩
    obtain ⟨y, hy, e⟩ := List.mem_map.mp hk
    have h1 := lin_at (acc_nodup ps) (e := x.1) (c := x.2) hx
    have h2 := lin_at (acc_nodup qs) (e := x.1) (c := y.2) (by rw [← e]; exact hy)
    rw [acc_lin] at h1 h2
    rw [lin_perm _ h] at h1
    have : x = y := Prod.ext e.symm (h1.symm.trans h2)
    rw [this]
    exact hy
  have nd : ∀ ps : List IQ, (accP ps).Nodup := fun ps => (List.pairwise_map.mp (acc_nodup ps)).imp fun q e => q (by rw [e])
  exact (List.perm_ext_iff_of_nodup (nd ps) (nd qs)).mpr fun x => ⟨sub h x, sub h.symm x⟩
theorem canon_lin (f : Int → Int) {ps ys : List IQ} (h : Canon ps ys) : lin f ys = lin f ps := (lin_perm f h.1).trans (acc_lin f ps)
theorem canon_len {ps ys : List IQ} (h : Canon ps ys) : ys.length ≤ ps.length := by
  rw [h.1.length_eq]
  exact acc_len ps
theorem canon_all {p : IQ → Prop} (hs : ∀ e b c, p (e, b) → p (e, c) → p (e, b + c)) {ps ys : List IQ} (h : Canon ps ys) (hp : ∀ x ∈ ps, p x) : ∀ x ∈ ys, p x := fun x hx => acc_all hs ps hp x (h.1.mem_iff.mp hx)

/-! ### products -/
def mulP (p q : List IQ) : List IQ := p.flatMap fun x => q.map fun y => (x.1 + y.1, x.2 * y.2)
theorem mulP_cons (x : IQ) (p q : List IQ) : mulP (x :: p) q = (q.map fun y => (x.1 + y.1, x.2 * y.2)) ++ mulP p q := by simp [mulP]
theorem mulP_consR (x : IQ) (p : List IQ) : ∀ q : List IQ, (mulP q (x :: p)).Perm ((q.map fun y => (y.1 + x.1, y.2 * x.2)) ++ mulP q p)
  | [] => by simp [mulP]
  | y :: q => by
    rw [mulP_cons, mulP_cons, List.map_cons, List.map_cons, List.cons_append, List.cons_append]
    refine List.Perm.cons _ ?_
    have h := mulP_consR x p q
    refine (List.Perm.append_left _ h).trans ?_
    rw [← List.append_assoc, ← List.append_assoc]
    exact List.Perm.append_right _ List.perm_append_comm
theorem mulP_comm : ∀ p q : List IQ, (mulP p q).Perm (mulP q p)
  | [], q => by
    have : mulP q [] = [] := by
      induction q with
      | nil => rfl
      | cons y q ih => rw [mulP_cons, ih]; rfl
    rw [this]
    exact List.Perm.refl _
  | x :: p, q => by
    rw [mulP_cons]
    refine (List.Perm.append_left _ (mulP_comm p q)).trans ?_
    refine List.Perm.trans ?_ (mulP_consR x p q).symm
    rw [show (q.map fun y => (x.1 + y.1, x.2 * y.2)) = q.map fun y => (y.1 + x.1, y.2 * x.2) from List.map_congr_left fun y _ => by rw [Int.add_comm, Int.mul_comm]]
theorem mulP_len : ∀ p q : List IQ, (mulP p q).length = p.length * q.length
  | [], q => by simp [mulP]
  | x :: p, q => by
    rw [mulP_cons, List.length_append, List.length_map, mulP_len p q, List.length_cons, Nat.succ_mul]
    exact Nat.add_comm _ _
/-- the value -/
def pw (k : Nat) : Int → Int := fun e => ((k ^ e.toNat : Nat) : Int)
def evalP (p : List IQ) (k : Nat) : Int := lin (pw k) p
theorem pw_add (k : Nat) {a b : Int} (ha : 0 ≤ a) (hb : 0 ≤ b) : pw k (a + b) = pw k a * pw k b := by
  unfold pw
  rw [Int.toNat_add ha hb, Nat.pow_add, Int.natCast_mul]
theorem mul_lin {k : Nat} {x : IQ} (hx : 0 ≤ x.1) : ∀ {q : List IQ}, (∀ y ∈ q, 0 ≤ y.1) → lin (pw k) (q.map fun y => (x.1 + y.1, x.2 * y.2)) = x.2 * pw k x.1 * lin (pw k) q
  | [], _ => by simp [lin]
  | y :: q, h => by
    rw [List.map_cons, lin_cons, lin_cons, mul_lin hx fun z hz => h z (List.mem_cons_of_mem _ hz), Int.mul_add, pw_add k hx (h y List.mem_cons_self)]
    have : x.2 * y.2 * (pw k x.1 * pw k y.1) = x.2 * pw k x.1 * (y.2 * pw k y.1) := by
      rw [Int.mul_assoc, Int.mul_assoc, Int.mul_left_comm y.2]
    rw [this]
theorem eval_mul {k : Nat} : ∀ {p q : List IQ}, (∀ x ∈ p, 0 ≤ x.1) → (∀ y ∈ q, 0 ≤ y.1) → evalP (mulP p q) k = evalP p k * evalP q k
  | [], q, _, _ => by simp [mulP, evalP, lin]
  | x :: p, q, hp, hq => by
    have ih := eval_mul (k := k) (p := p) (q := q) (fun z hz => hp z (List.mem_cons_of_mem _ hz)) hq
    unfold evalP at ih ⊢
    rw [mulP_cons, lin_app, mul_lin (hp x List.mem_cons_self) hq, ih, lin_cons, Int.add_mul]
end Zk

set_option maxHeartbeats 4000000
/-! K0: rules over data: isinstance, == with an empty tuple or list, sorted(d.items()) of ints. -/
namespace Zk
open PySem PySem.Spec PyProof.Rows L2 GxR

/-! ### the heap but for tables of code -/
/-- what stands and is no table stands -/
def Sm (H H' : Hp) : Prop := ∀ b o, H b = some o → (∀ ps, o ≠ .tbl ps) → H' b = some o
theorem Sm.refl (H : Hp) : Sm H H := fun _ _ e _ => e
theorem Sm.trans {a b c : Hp} (x : Sm a b) (y : Sm b c) : Sm a c := fun p o e n => y p o (x p o e n) n
theorem Same.sm {H H' : Hp} (x : Same H H') : Sm H H' := fun p o e _ => x p o e
/-- the tables at T -/
def Tb (T : List Addr) (H : Hp) : Prop := ∀ P ∈ T, TabG H P
theorem Tb.same {T : List Addr} {H H' : Hp} (t : Tb T H) (s : Same H H') : Tb T H' := fun P hP => let ⟨ps, e, h⟩ := t P hP; ⟨ps, s _ _ e, h⟩
theorem Tb.mono {T T' : List Addr} {H : Hp} (t : Tb T H) (h : ∀ P ∈ T', P ∈ T) : Tb T' H := fun P hP => t P (h P hP)
theorem Tabbed.sm {P : Addr} {H H' : Hp} (t : Tabbed P H H') (g : TabG H P) : Sm H H' := fun b o e n => by
  by_cases hb : b = P
  · obtain ⟨ps, e2, _⟩ := g
    rw [hb, e2] at e
    exact absurd (Option.some.inj e).symm (n ps)
  · rw [t.2 b hb]
    exact e
theorem Tabbed.tb {T : List Addr} {P : Addr} {H H' : Hp} (t : Tabbed P H H') (g : Tb T H) : Tb T H' := fun R hR => by
  by_cases hb : R = P
  · rw [hb]
    exact t.1
  · obtain ⟨ps, e, h⟩ := g R hR
    exact ⟨ps, by rw [t.2 R hb]; exact e, h⟩
mutual
theorem Sd.sm {H H' : Hp} (e : Sm H H') : ∀ {v : V} {d : PyData}, Sd H v d → Sd H' v d
  | _, _, .non => .non
  | _, _, .bl b => .bl b
  | _, _, .int i => .int i
  | _, _, .str x => .str x
  | _, _, .lst h t => .lst (e _ _ h fun _ z => nomatch z) (SdL.sm e t)
  | _, _, .tup h t => .tup (e _ _ h fun _ z => nomatch z) (SdL.sm e t)
  | _, _, .dic h t => .dic (e _ _ h fun _ z => nomatch z) (SdK.sm e t)
theorem SdL.sm {H H' : Hp} (e : Sm H H') : ∀ {vs : List V} {ds : List PyData}, SdL H vs ds → SdL H' vs ds
  | _, _, .nil => .nil
  | _, _, .cons h t => .cons (Sd.sm e h) (SdL.sm e t)
theorem SdK.sm {H H' : Hp} (e : Sm H H') : ∀ {ks : List (Key × V)} {es : List (PyData × PyData)}, SdK H ks es → SdK H' ks es
  | _, _, .nil => .nil
  | _, _, .cons h t => .cons (Sd.sm e h) (SdK.sm e t)
end

/-! ### isinstance -/
def tyD : PyData → String
  | .none => "NoneType"
  | .bool _ => "bool"
  | .int _ => "int"
  | .str _ => "str"
  | .list _ => "list"
  | .tuple _ => "tuple"
  | .dict _ => "dict"
def isNumD : PyData → Bool
  | .int _ => true
  | .bool _ => true
  | _ => false
def isBoolD : PyData → Bool
  | .bool _ => true
  | _ => false
def isStrD : PyData → Bool
  | .str _ => true
  | _ => false
def isListD : PyData → Bool
  | .list _ => true
  | _ => false
def isTupD : PyData → Bool
  | .tuple _ => true
  | _ => false
/-- an integer that is no bool -/
def isIntD : PyData → Bool
  | .int _ => true
  | _ => false
/-- a built-in class's name, and of which data it is the class -/
inductive IsTy : String → (PyData → Bool) → Prop
  | int : IsTy "int" isNumD
  | bool : IsTy "bool" isBoolD
  | str : IsTy "str" isStrD
  | list : IsTy "list" isListD
  | tuple : IsTy "tuple" isTupD
theorem sd_ty {K : PySem.W.Frag} {H : Hp} {v : V} {d : PyData} (h : Sd H v d) : TyX K H v (.type (tyD d)) := by
  cases h with
  | non => exact .base .non
  | bl b => exact .base (.bl b)
  | int i => exact .base (.int i)
  | str x => exact .base (.str x)
  | lst h _ => exact .base (.lst h)
  | tup h _ => exact .base (.tup h)
  | dic h _ => exact .base (.dK h)
theorem sd_kit {K : PySem.W.Frag} {H : Hp} {v : V} {d : PyData} {n : String} {f : PyData → Bool} (h : Sd H v d) (t : IsTy n f) : PySem.W.kitOne K (.type (tyD d)) (.type n) = some (f d) := by
  cases t <;> cases h <;> (refine kit_ty ?_; simp only [tyD, isNumD, isBoolD, isStrD, isListD, isTupD]; decide +kernel)
def rIsD (n : String) (f : PyData → Bool) : List V → Hp → VK → Prop := fun xs H Q => ∃ x d, xs = [x, .ty n] ∧ Sd H x d ∧ Q (.bl (f d)) H
section
variable {X : Cx} {te : TE} {e : Expr}
theorem call_isD {n : String} {f : PyData → Bool} (t : IsTy n f) : CallR X (.builtin "isinstance") (rIsD n f) := by
  intro pins s σ H xs us Q I r h
  obtain ⟨x, d, rfl, sd, q⟩ := h
  exact call_isi pins s σ H _ us Q I r ⟨x, .ty n, _, _, _, rfl, .ty n, sd_ty sd, sd_kit sd t, q⟩
/-- isinstance(e, T), e data -/
theorem pe_isD {nm : Str} {n : String} {f : PyData → Bool} {p p2 pos : Pos} (t : IsTy n f) (he : PE X e te) (hg : Gl X "isinstance") (hm : X.mg "isinstance" = none) (hg2 : Gl X nm) (hm2 : X.mg nm = none) (hv2 : bootBuiltins nm = some (.type n)) (hn2 : nm ≠ "__name__" := by decide) (hd2 : (nm == ("__debug__" : Str)) = false := by decide)
    (hst : starEach (e :: [.Name nm p2]) X.env = (false, eval e X.env) :: starEach [.Name nm p2] X.env := by rfl) (hpl : (backTo pos (starEach [.Name nm p2] X.env)).any (·.1) = false := by rfl) :
    PE X (.Call (.Name "isinstance" p) [e, .Name nm p2] [] pos) (tCB (rIsD n f) (tCons te (tCons (tC (.ty n)) tNil))) :=
  pe_callB (call_isD t) hg hm PyProof.Rows.boot_isinstance (pa_cons he (pa_cons (pe_bltn (v := .ty n) hg2 hm2 hv2 rfl hn2 hd2) pa_nil) (hs := hst)) (he := hst) (hpl := hpl)

/-! ### == with an empty tuple, an empty list -/
/-- x == (), x a tuple -/
def rEqT0 (K : PySem.W.Frag) (k : Bool → Bool) : R2 := fun x y H Q => ∃ a b xs, x = .ref a ∧ y = .ref b ∧ SqT K H a xs ∧ SqT K H b [] ∧ Q (.bl (k xs.isEmpty)) H
def rEqL0 (K : PySem.W.Frag) (k : Bool → Bool) : R2 := fun x y H Q => ∃ a b xs, x = .ref a ∧ y = .ref b ∧ SqL K H a xs ∧ SqL K H b [] ∧ Q (.bl (k xs.isEmpty)) H
theorem op_eqT0 (hu : X.A.units < cLine) : OpR X (compareOp .Eq) (rEqT0 X.K id) := by
  intro pins s σ H x y v u Q I rx ry h
  obtain ⟨a, b, xs, rfl, rfl, ha, hb, q⟩ := h
  cases rx
  cases ry
  obtain ⟨its, r1, p1, _⟩ := I.tuple ha
  obtain ⟨its2, r2, p2, _⟩ := I.tuple hb
  cases r2
  refine SeqAt.eq_tupleAt (e := fun _ => true) p1 p2 hu (fun j _ h2 => absurd h2 (by simp)) ⟨.bl _, H, I, rfl, ?_⟩
  have e : (its.length == 0) = xs.isEmpty := by cases r1 <;> rfl
  simpa [e] using q
theorem op_neT0 (hu : X.A.units < cLine) : OpR X (compareOp .NotEq) (rEqT0 X.K not) := by
  intro pins s σ H x y v u Q I rx ry h
  obtain ⟨a, b, xs, rfl, rfl, ha, hb, q⟩ := h
  cases rx
  cases ry
  obtain ⟨its, r1, p1, _⟩ := I.tuple ha
  obtain ⟨its2, r2, p2, _⟩ := I.tuple hb
  cases r2
  refine SeqAt.RcNeAt.tuples (e := fun _ => true) p1 p2 hu (fun j _ h2 => absurd h2 (by simp)) _ _ _ _ ⟨.bl _, H, I, rfl, ?_⟩
  have e : (its.length == 0) = xs.isEmpty := by cases r1 <;> rfl
  simpa [e] using q
theorem op_eqL0 (hu : X.A.units < cLine) : OpR X (compareOp .Eq) (rEqL0 X.K id) := by
  intro pins s σ H x y v u Q I rx ry h
  obtain ⟨a, b, xs, rfl, rfl, ha, hb, q⟩ := h
  cases rx
  cases ry
  obtain ⟨its, r1, p1, _⟩ := I.list ha
  obtain ⟨its2, r2, p2, _⟩ := I.list hb
  cases r2
  cases r1 with
  | nil => exact SeqAt.eq_listAt (e := fun _ => true) p1.isList p2.isList rfl hu (fun j h1 _ => absurd h1 (by simp)) ⟨.bl _, H, I, rfl, by simpa using q⟩
  | cons _ _ => exact SeqAt.eq_list_lengthsAt p1.isList p2.isList (by simp) hu ⟨.bl _, H, I, rfl, by simpa using q⟩
end
end Zk

set_option maxHeartbeats 4000000
/-! K1: d.items() of a dict of ints, sorted(d.items()). -/
namespace Zk
open PySem PySem.Spec PyProof.Rows L2 GxR
open L2.DX (itemsO itemsO_ok takeT)

abbrev IP := Int × Int
def dI (es : List IP) : List (Key × V) := es.map fun e => (.inl e.1, .int e.2)
/-- tuples (i, j) at ts -/
def PT (H : Hp) : List V → List IP → Prop := Paired fun v e => ∃ t, v = .ref t ∧ H t = some (.tup [.int e.1, .int e.2])
theorem PT.sm {H H' : Hp} (s : Sm H H') : ∀ {ts : List V} {es : List IP}, PT H ts es → PT H' ts es
  | _, _, .nil => .nil
  | _, _, .cons ⟨t, e, h⟩ r => .cons ⟨t, e, s _ _ h fun _ z => nomatch z⟩ (PT.sm s r)
theorem PT.len {H : Hp} {ts : List V} {es : List IP} (h : PT H ts es) : ts.length = es.length := Paired.length h
def pairOf (h : Heap) : Value → IP
  | .ref a => match h.get? a with
    | some o => match o.data with
      | .seq items _ => match items.toList with
        | [.int x _, .int y _] => (x, y)
        | _ => (0, 0)
      | _ => (0, 0)
    | none => (0, 0)
  | _ => (0, 0)
theorem pairOf_of {h : Heap} {v : Value} {x y : Int} (p : Srt.IsPair h v x y) : pairOf h v = (x, y) := by
  obtain ⟨a, o, t, u, n, rfl, ho, hc, hd⟩ := p
  simp only [pairOf, ho, hd]
section
variable {X : Cx}
def rItemsK : V → List V → Hp → VK → Prop := fun x xs H Q => ∃ (a : Addr) (kvs : List (Key × V)), x = .ref a ∧ xs = [] ∧ H a = some (.dK kvs) ∧ ∀ p, H p = none → Q (.ref p) (upd H p (itemsO p a))
theorem raw_of {pins : List (Addr × Obj)} {σ : L2.St} {H : Hp} {s : Shared} {a : Addr} {kvs : List (Key × V)} (I : Inv X pins σ H s) (ha : H a = some (.dK kvs)) :
    (a == sysModules) = false ∧ kvs.length ≤ sizeLine ∧ ∃ es ep vs, DT.Raw s.heap a es ep ∧ KV kvs vs ∧ Pairs (mixKind X.prog X.w) es.toList vs := by
  obtain ⟨z, lo, vs, rel, o, es, ep, ho, hx, hd, _, hp, _⟩ := I.hok a _ ha
  exact ⟨lo, z, es, ep, vs, ⟨o, ho, hx, hd⟩, rel, hp⟩
theorem mt_itemsK : MtR X "dict.items" rItemsK := by
  intro pins s σ H x xs v us Q I rx rxs h
  obtain ⟨a, kvs, rfl, rfl, ha, q⟩ := h
  cases rx
  cases rxs
  obtain ⟨lo, z, es, ep, vs, raw, _⟩ := raw_of I ha
  refine DT.callItems (es := es) (ep := ep) lo raw ?_
  have hf : H s.heap.objs.size = none := I.hok.fresh (Nat.le_refl _)
  exact ⟨.ref s.heap.objs.size, upd H s.heap.objs.size (itemsO s.heap.objs.size a), I.laid (t' := s.toks) (fun b u e => Heap.get?_push_of_some _ e) (Nat.le_refl _) (itemsO_ok (Heap.get?_push_size _ rfl)), rfl, q _ hf⟩
/-- sorted(d.items()), keys and values ints -/
def rSortII : List V → Hp → VK → Prop := fun vs H Q => ∃ (p a : Addr) (es : List IP), vs = [.ref p] ∧ H p = some (itemsO p a) ∧ H a = some (.dK (dI es)) ∧
  ∀ (ys : List IP) (H' : Hp) (l : Addr) (ts : List V), ys.Perm es → ys.Pairwise (fun x y => SrtO.lexB y x = false) → Same H H' → H l = none → H' l = some (.lst ts) → PT H' ts ys → Q (.ref l) H'
theorem kv_dI {P : Program} {w : World} : ∀ {es : List IP} {ent : List DictEntry} {vs : List (Key × Value)}, KV (dI es) vs → Pairs (mixKind P w) ent vs →
    ent.length = es.length ∧ ∀ (j : Nat) (e : IP), es[j]? = some e → ∃ en t u, ent[j]? = some en ∧ en.key = .int e.1 t ∧ en.val = .int e.2 u
  | [], _, _, .nil, .nil => ⟨rfl, fun j e h => by simp at h⟩
  | e :: es, _, _, .cons r t, .cons h1 h2 h3 => by
    obtain ⟨l, q⟩ := kv_dI t h3
    refine ⟨by rw [List.length_cons, List.length_cons, l], fun j e' h => ?_⟩
    cases j with
    | zero =>
      simp only [List.getElem?_cons_zero, Option.some.injEq] at h
      subst h
      obtain ⟨r1, u, r2⟩ := r
      have r1 : (Sum.inl e.1 : Key) = _ := r1
      rw [← r1] at h1
      rcases keyIs_shape (show keyIs (Sum.inl e.1) _ = true from h1) with ⟨i, tk, e1, e2⟩ | ⟨x, tk, e1, _⟩
      · cases e1
        exact ⟨_, tk, u, rfl, e2, by rw [h2, r2]⟩
      · exact nomatch e1
    | succ j =>
      simp only [List.getElem?_cons_succ] at h
      obtain ⟨en, tk, u, a, b, c⟩ := q j e' h
      exact ⟨en, tk, u, by rw [List.getElem?_cons_succ]; exact a, b, c⟩
theorem cr_sortedII (hc : X.calm = true) : CallR X (.builtin "sorted") rSortII := by
  intro pins s σ H xs us Q I r h
  obtain ⟨p, a, es, rfl, hp, ha, q⟩ := h
  obtain rfl := Vals.ref1 r
  have view : s.heap.IsItemsView p a := (show ObjOk X.prog X.w H s.heap p (itemsO p a) from I.hok p _ hp).1
  obtain ⟨lo, z, ent, ep, vs, raw, rel, hpr⟩ := raw_of I ha
  obtain ⟨le, hat⟩ := kv_dI rel hpr
  have les : ent.size = es.length := by rw [← Array.length_toList]; exact le
  have zes : es.length ≤ sizeLine := by simpa [dI] using z
  refine DT.sortedI (es := ent) (ep := ep) (I.ok.hd hc) view raw (by rw [les]; exact zes) fun h' tk as hk hlt hl hG => ?_
  have lak : as.length = es.length := hl.trans les
  have nd : as.Nodup := List.Pairwise.imp (fun h => Nat.ne_of_lt h) hG.rise
  -- the pairs that were made
  have pr : ∀ (j : Nat) (b : Addr), as[j]? = some b → ∃ (e : IP) (t u : Tok), es[j]? = some e ∧ h'.get? b = some { cls := .type "tuple", data := .seq #[Value.int e.1 t, Value.int e.2 u] } := by
    intro j b hj
    obtain ⟨en, he, hg⟩ := hG.pairs j b hj
    have hjl : j < es.length := by
      have := (List.getElem?_eq_some_iff.mp hj).1
      omega
    obtain ⟨en', t, u, e1, e2, e3⟩ := hat j es[j] (List.getElem?_eq_getElem hjl)
    have : en' = en := by
      rw [← Array.getElem?_toList] at he
      exact Option.some.inj (e1.symm.trans he)
    subst this
    exact ⟨es[j], t, u, List.getElem?_eq_getElem hjl, by rw [hg, e2, e3]⟩
  have hob : (h'.push { cls := .type "list", data := .seq (as.map Value.ref).toArray }).get? h'.objs.size = some (seqObj "list" (as.map Value.ref).toArray 0) := Heap.get?_push_size _ rfl
  have ne0 : ∀ b o, h'.get? b = some o → b ≠ h'.objs.size := fun b o e => Nat.ne_of_lt (Heap.lt_size e)
  generalize hh2 : h'.push { cls := .type "list", data := .seq (as.map Value.ref).toArray } = h2 at hob ⊢
  have ka : ∀ b o, h'.get? b = some o → h2.get? b = some o := fun b o e => by rw [← hh2]; exact Heap.get?_push_of_some _ e
  have kb : ∀ b o, s.heap.get? b = some o → h2.get? b = some o := fun b o e => ka b o (hk b o e)
  have isP : ∀ v ∈ as.map Value.ref, ∃ (j : Nat) (b : Addr) (e : IP), v = .ref b ∧ as[j]? = some b ∧ es[j]? = some e ∧ Srt.IsPair h2 v e.1 e.2 := fun v hv => by
    obtain ⟨b, hb, rfl⟩ := List.mem_map.mp hv
    obtain ⟨j, hj⟩ := List.mem_iff_getElem?.mp hb
    obtain ⟨e, t, u, he, hg⟩ := pr j b hj
    exact ⟨j, b, e, rfl, hj, he, b, _, t, u, 0, rfl, ka _ _ hg, rfl, rfl⟩
  have isK : ∀ v ∈ as.map Value.ref, Srt.IsPair h2 v (pairOf h2 v).1 (pairOf h2 v).2 := fun v hv => by
    obtain ⟨_, _, e, _, _, _, hp⟩ := isP v hv
    rw [pairOf_of hp]
    exact hp
  have mapK : (as.map Value.ref).map (pairOf h2) = es := by
    apply List.ext_getElem?
    intro j
    by_cases hj : j < as.length
    · have h1 : as[j]? = some as[j] := List.getElem?_eq_getElem hj
      obtain ⟨e, t, u, he, hg⟩ := pr j _ h1
      rw [List.getElem?_map, List.getElem?_map, h1, he]
      show some (pairOf h2 (.ref as[j])) = _
      rw [pairOf_of ⟨as[j], _, t, u, 0, rfl, ka _ _ hg, rfl, rfl⟩]
    · rw [List.getElem?_eq_none (by simpa using hj), List.getElem?_eq_none (by omega)]
  refine wpAny_call_entry PyProof.Rows.slot_list_sort ⟨_, hob, rfl⟩ PyProof.Rows.entry_list_sort
    (SrtO.list_sort_ord (s := { s with heap := h2, toks := tk }) (SrtO.swo_lex (pairOf h2)) hob (by rw [List.length_map, lak]; exact zes)
      (fun h2' => SrtO.pairs_sortableO (s := { s with heap := h2, toks := tk }) (by omega) isK fun o e c => ?_) fun out o1 o2 => ⟨.none, rfl, ?_⟩) (PyProof.Rows.args_list_sort _)
  · have e : h2.get? h'.objs.size = some o := e
    rw [hob] at e
    cases e
    exact absurd (Value.type.inj c) (by decide)
  · show EP X pins σ Q (.ref h'.objs.size) { s with heap := sortedHeap h2 h'.objs.size (as.map Value.ref) out.toArray, toks := tk }
    have kF : ∀ b o, b ≠ h'.objs.size → h2.get? b = some o → (sortedHeap h2 h'.objs.size (as.map Value.ref) out.toArray).get? b = some o := fun b o hb e => (PyProof.Rows.sortedHeap_old hb (Heap.lt_size e)).trans e
    have kS : ∀ b o, s.heap.get? b = some o → (sortedHeap h2 h'.objs.size (as.map Value.ref) out.toArray).get? b = some o := fun b o e => kF b o (ne0 _ _ (hk b o e)) (kb b o e)
    obtain ⟨eF, heF⟩ := PyProof.Rows.sortedHeap_at (vs := as.map Value.ref) (out := out.toArray) hob
    have I1 : Inv X pins σ H { s with heap := sortedHeap h2 h'.objs.size (as.map Value.ref) out.toArray, toks := tk } := I.kept (t' := tk) kS
    have hn0 : H h'.objs.size = none := I.hok.fresh (Nat.le_of_lt hlt)
    have perm := o2.perm
    have lout : out.length = es.length := by rw [perm.length_eq, List.length_map, lak]
    have ref : ∀ v ∈ out, ∃ (j : Nat) (b : Addr) (e : IP), v = .ref b ∧ as[j]? = some b ∧ es[j]? = some e ∧ Srt.IsPair h2 v e.1 e.2 := fun v hv => isP v (perm.mem_iff.mp hv)
    have I2 : Inv X pins σ (upd H h'.objs.size (.lst (out.map backV))) { s with heap := sortedHeap h2 h'.objs.size (as.map Value.ref) out.toArray, toks := tk } :=
      I1.take (h' := sortedHeap h2 h'.objs.size (as.map Value.ref) out.toArray) (t' := tk) (fun b ob _ e => e) (I.fpOk (Nat.le_of_lt hlt) hn0) ⟨by rw [List.length_map, lout]; exact zes, out, eF, vals_back fun v hv => let ⟨_, b, _, e, _⟩ := ref v hv; ⟨b, e⟩, heF⟩
    obtain ⟨H2, I3, g, qt⟩ := takeT (P := fun b vs => ∃ (j : Nat) (e : IP), as[j]? = some b ∧ es[j]? = some e ∧ vs = [.int e.1, .int e.2]) I as _ I2 nd fun b hb => by
      obtain ⟨j, hj⟩ := List.mem_iff_getElem?.mp hb
      obtain ⟨e, t, u, he, hg⟩ := pr j b hj
      have hbl : s.heap.objs.size ≤ b := Nat.le_of_lt (hG.above b hb)
      refine ⟨hbl, ?_, [.int e.1, .int e.2], ⟨j, e, hj, he, rfl⟩, fun H3 => ⟨(by rw [sizeLine_eq]; show 2 ≤ 16777216; omega), [Value.int e.1 t, Value.int e.2 u], .cons ⟨t, rfl⟩ (.cons ⟨u, rfl⟩ .nil), ⟨_, kF _ _ (ne0 _ _ hg) (ka _ _ hg), rfl, 0, rfl⟩⟩⟩
      rw [upd_ne (ne0 _ _ hg)]
      exact I.hok.fresh hbl
    have gr : ∀ b o, H b = some o → H2 b = some o := fun b o e => g b o (by rw [upd_ne (ne_of_none e hn0)]; exact e)
    have pm : (out.map (pairOf h2)).Perm es := by
      have := perm.map (pairOf h2)
      rw [mapK] at this
      exact this
    refine ⟨.ref h'.objs.size, H2, I3, rfl, q (out.map (pairOf h2)) H2 h'.objs.size (out.map backV) pm (List.pairwise_map.mpr o1) gr hn0 (g _ _ upd_same) ?_⟩
    have all : ∀ l : List Value, (∀ v ∈ l, v ∈ out) → PT H2 (l.map backV) (l.map (pairOf h2)) := fun l => by
      induction l with
      | nil => exact fun _ => .nil
      | cons v l ih =>
        intro hm
        refine .cons ?_ (ih fun u hu => hm u (List.mem_cons_of_mem _ hu))
        obtain ⟨j, b, e, rfl, hj, he, hpp⟩ := ref v (hm v List.mem_cons_self)
        obtain ⟨vs', ⟨j', e', j1, j2, ev⟩, hH⟩ := qt b (List.mem_of_getElem? hj)
        have eij : j = j' := (List.getElem?_inj (List.getElem?_eq_some_iff.mp hj).1 nd).mp (hj.trans j1.symm)
        subst eij
        have ee : e' = e := Option.some.inj (j2.symm.trans he)
        subst ee
        rw [pairOf_of hpp]
        exact ⟨b, rfl, by rw [hH, ev]⟩
    exact all out fun v hv => hv
end
end Zk

set_option maxHeartbeats 4000000
/-! D1: the law's drawing defs. -/
namespace Zk
open PySem PySem.Spec PyProof.Rows L2
def top (i : Nat) : Stmt := PySem.Challenge.pw_narrowplay_k01_polynomials_values_sums_a.main.body.getD i (.Pass ⟨0, 0, 0, 0⟩)
abbrev sDeck : Stmt := top 19
abbrev sDraw : Stmt := top 20
abbrev sPick : Stmt := top 21
abbrev sAny : Stmt := top 23

theorem cut_all {xs : List V} (h : xs.length ≤ 63) : cutV xs none (some 63) = xs := by
  have e : HT.sIx xs.length xs.length (some 63) = xs.length := (HT.sIx_nat xs.length xs.length 63).trans (by omega)
  unfold cutV
  rw [HT.sIx_none, e]
  simp
theorem int_item {ns : List Int} {i : Nat} {x : V} (h : (ns.map V.int)[i]? = some x) : ∃ u, x = .int u := by
  rw [List.getElem?_map] at h
  cases e : ns[i]? with
  | none => rw [e] at h; cases h
  | some u => rw [e] at h; exact ⟨u, (Option.some.inj h).symm⟩
theorem merge_deck {lf : Addr} {m d : Int} : mergeK [] (deckL lf m d) = deckL lf m d := by
  have h1 : putK ([] : List (Key × V)) (.inr ("left" : Str)) (.ref lf) = [(.inr ("left" : Str), .ref lf)] := rfl
  have h2 : putK [((Sum.inr ("left" : Str) : Key), V.ref lf)] (.inr ("mixed" : Str)) (.int m) = [((Sum.inr ("left" : Str) : Key), V.ref lf), ((Sum.inr ("mixed" : Str) : Key), V.int m)] := by
    unfold putK
    rw [valV_any, valV_neg k_lm]
    rfl
  have h3 : putK [((Sum.inr ("left" : Str) : Key), V.ref lf), ((Sum.inr ("mixed" : Str) : Key), V.int m)] (.inr ("draws" : Str)) (.int d) = deckL lf m d := by
    unfold putK
    rw [valV_any, valV_neg k_ld, valV_neg k_md]
    rfl
  have e : mergeK [] (deckL lf m d) = putK (putK (putK ([] : List (Key × V)) (.inr ("left" : Str)) (.ref lf)) (.inr ("mixed" : Str)) (.int m)) (.inr ("draws" : Str)) (.int d) := rfl
  rw [e, h1, h2, h3]
/-- _law_deck(script, seed): a new deck -/
def spDeck (K : PySem.W.Frag) : Sp := fun vs H Q _ => ∃ (a : Addr) (ns : List Int) (seed : Int), vs = [.ref a, .int seed] ∧ SqL K H a (ns.map V.int) ∧ ns.length ≤ 63 ∧ 0 ≤ seed ∧ seed < 2 ^ 31 ∧ ∀ p lf H', DeckAt H H' p lf 0 → Q (.ref p) H'
/-- _law_draw(deck, many): below many -/
def spDraw : Sp := fun vs H Q _ => ∃ (H0 : Hp) (dk lf : Addr) (B : Nat) (m : Int), vs = [.ref dk, .int m] ∧ DeckAt H0 H dk lf B ∧ B < 2 ^ 60 ∧ 0 < m ∧ m < 2 ^ 60 ∧ ∀ r H', 0 ≤ r → r < m → Grow dk lf H0 H H0 H' → DeckAt H0 H' dk lf (B + 1) → Q (.int r) H'
/-- _law_pick(deck, some): one of them -/
def spPick : Sp := fun vs H Q _ => ∃ (H0 : Hp) (dk lf l : Addr) (B : Nat) (xs : List V), vs = [.ref dk, .ref l] ∧ DeckAt H0 H dk lf B ∧ B < 2 ^ 60 ∧ H l = some (.lst xs) ∧ l ≠ dk ∧ l ≠ lf ∧ 0 < xs.length ∧ xs.length < 2 ^ 59 ∧
  ∀ v H', v ∈ xs → Grow dk lf H0 H H0 H' → DeckAt H0 H' dk lf (B + 1) → Q v H'
theorem get_draws {H : Hp} {dk lf : Addr} {m d : Int} (h : H dk = some (.dK (deckL lf m d))) : DGet H dk (.str "draws") (some (.int d)) := by
  have z := DGet.k (k := .inr ("draws" : Str)) h
  rw [deck_draws] at z
  exact z
theorem get_mixed {H : Hp} {dk lf : Addr} {m d : Int} (h : H dk = some (.dK (deckL lf m d))) : DGet H dk (.str "mixed") (some (.int m)) := by
  have z := DGet.k (k := .inr ("mixed" : Str)) h
  rw [deck_mixed] at z
  exact z
theorem get_left {H : Hp} {dk lf : Addr} {m d : Int} (h : H dk = some (.dK (deckL lf m d))) : DGet H dk (.str "left") (some (.ref lf)) := by
  have z := DGet.k (k := .inr ("left" : Str)) h
  rw [deck_left] at z
  exact z
theorem dput_draws {H : Hp} {dk lf : Addr} {m d x : Int} (h : H dk = some (.dK (deckL lf m d))) : DPut H dk (.str "draws") (.int x) (upd H dk (.dK (deckL lf m x))) := by
  have z := DPut.k (k := .inr ("draws" : Str)) (v := .int x) h (by show 3 < sizeLine; decide)
  rw [put_draws] at z
  exact z
theorem dput_mixed {H : Hp} {dk lf : Addr} {m d x : Int} (h : H dk = some (.dK (deckL lf m d))) : DPut H dk (.str "mixed") (.int x) (upd H dk (.dK (deckL lf x d))) := by
  have z := DPut.k (k := .inr ("mixed" : Str)) (v := .int x) h (by show 3 < sizeLine; decide)
  rw [put_mixed] at z
  exact z
/-- an if, and then what both of its ways come to -/
theorem seq_if {c : TT} {t1 t2 ts : TS} {D : Ends} {σ : List (Option V)} {H : Hp} (I : List (Option V) → Hp → Prop) (hI : ∀ σ H, I σ H → ts D σ H) (h : (∀ σ H, I σ H → ts D σ H) → tIfS c t1 t2 { D with nx := ts D } σ H) : tSeq (tIfS c t1 t2) ts D σ H := h hI
theorem same_at {H0 H : Hp} {a : Addr} (e : Same H0 H) (h : H0 a = none) (o : HO) : Same H0 (upd H a o) := same_out e h o
theorem last_at {ns : List Int} (h : ns ≠ []) : (ns.map V.int)[(ns.map V.int).length - 1]? = some (.int (ns.getLast h)) := by
  rw [List.length_map, List.getElem?_map, ← List.getLast?_eq_getElem?, List.getLast?_eq_some_getLast h]
  rfl
/-- from H to H' nothing has changed but at dk and lf, and new things -/
def Only2 (dk lf : Addr) (H H' : Hp) : Prop := ∀ b o, b ≠ dk → b ≠ lf → H b = some o → H' b = some o
section
variable {H0 H H' : Hp} {dk lf p : Addr} {o : HO}
theorem Only2.refl : Only2 dk lf H H := fun _ _ _ _ e => e
theorem Only2.at_d (h : Only2 dk lf H H') : Only2 dk lf H (upd H' dk o) := fun b u n1 n2 e => (upd_ne n1).trans (h b u n1 n2 e)
theorem Only2.at_l (h : Only2 dk lf H H') : Only2 dk lf H (upd H' lf o) := fun b u n1 n2 e => (upd_ne n2).trans (h b u n1 n2 e)
theorem Only2.new (h : Only2 dk lf H H') (hp : H' p = none) : Only2 dk lf H (upd H' p o) := fun b u n1 n2 e => same_new hp o _ _ (h b u n1 n2 e)
theorem Only2.same (h : Only2 dk lf H H') (s : Same H0 H) (h2 : H0 dk = none) (h3 : H0 lf = none) : Same H0 H' := fun b u e =>
  h b u (fun z => by rw [z, h2] at e; cases e) (fun z => by rw [z, h3] at e; cases e) (s _ _ e)
theorem Only2.grow (h : Only2 dk lf H H') (_ : Same H0 H) (_ : H0 dk = none) (_ : H0 lf = none) : Grow dk lf H0 H H0 H' := ⟨Same.refl _, h, fun _ _ _ => rfl⟩
end
/-- what the built-ins' names are -/
structure Blt (mg : Str → Option Value) : Prop where
  int : mg "int" = none
  list : mg "list" = none
  max : mg "max" = none
  len : mg "len" = none
  range : mg "range" = none
  tuple : mg "tuple" = none
  repr : mg "repr" = none
section
variable {P : Program} {w : World} {K : PySem.W.Frag} {mg : Str → Option Value} {base : Heap} {f : Addr} {fd : FuncData}
theorem scDeck : FnScope ["script", "seed", "mixed", "cell"] ["script", "seed"] (defScope sDeck) := ⟨rfl, rfl, rfl, by decide +kernel, rfl, by decide +kernel, by decide +kernel⟩
theorem ok_deck (F : Fun K "_law_deck" "_law_deck" sDeck f fd) (T : Blt mg) : FnOk P w K mg base CX0 1 f fd ["script", "seed"] (spDeck K) := by
  refine F.ok scDeck (fun vs H Q E h => ?_) (fun cdv A outer s H vs Q E hr h => ?_)
  · obtain ⟨a, ns, seed, rfl, _⟩ := h
    rfl
  obtain ⟨a, ns, seed, rfl, hS, hl, s0, s1, q⟩ := h
  refine ⟨_, pss_cons (ps_set (i := 2) scDeck.nd rfl (Or.inl rfl) (pv 1))
    (pss_cons (ps_for PassesOwn.never rfl (pi_list (pe_slice sl_list (pv 0) po_none (po_some pe_int))) (pg_name (i := 3) scDeck.nd rfl (Or.inl rfl))
      (pss_one (ps_set (i := 2) scDeck.nd rfl (Or.inl rfl) (pe_op op_mod (pe_callTy call_int1 (by rfl) T.int (by decide +kernel) (pa_cons
        (pe_op op_add (pe_op op_add (pe_op op_mul (pv 2) pe_int) (pe_op op_mod (pe_callTy call_int1 (by rfl) T.int (by decide +kernel) (pa_cons (pv 3) pa_nil)) pe_int)) pe_int) pa_nil)) pe_int))))
    (pss_one (ps_ret (pe_disp (pps_cons pe_str (pe_revL (pe_callTy call_list_of (by rfl) T.list (by decide +kernel) (pa_cons (pe_slice sl_list (pv 0) po_none (po_some pe_int)) pa_nil)))
      (pps_cons pe_str (pv 2) (pps_cons pe_str pe_int pps_nil))) rfl rfl (by intro z; cases z) (by decide))))), ?_⟩
  have hcut : cutV (ns.map V.int) none (some 63) = ns.map V.int := cut_all (by simpa using hl)
  refine ⟨_, rfl, _, rfl, 63, rfl, a, _, rfl, hS, fun p hp => ?_⟩
  rw [hcut]
  refine ⟨p, rfl, ⟨_, SqL.of upd_same⟩, for_list (K := K) (a := p) (xs := ns.map V.int) (fun _ σ' H' => ∃ (m : Int) (v : Option V), σ' = [some (.ref a), some (.int seed), some (.int m), v] ∧ 0 ≤ m ∧ m < 2 ^ 31 ∧ H' = upd H p (.lst (ns.map V.int)))
    ⟨seed, none, rfl, s0, s1, rfl⟩ (fun i σ' H' _ ⟨_, _, _, _, _, e⟩ => by rw [e]; exact SqL.of upd_same) ?_ ?_⟩
  · rintro i x σ' H' hx ⟨m, v, rfl, m0, m1, rfl⟩
    obtain ⟨u, rfl⟩ := int_item hx
    refine ⟨_, rfl, _, _, rfl, rfl, .inr ⟨by decide, by decide⟩, _, rfl, .inl ⟨_, rfl, _, _, rfl, rfl, (by show (0 : Int) < 2147483629; decide), _, _, rfl, rfl, _, _, rfl, rfl, .inl ⟨_, rfl, _, _, rfl, rfl, (by show (0 : Int) < 2147483563; decide), ?_⟩⟩⟩
    refine ⟨_, _, rfl, Int.emod_nonneg _ (by decide), ?_, rfl⟩
    have := Int.emod_lt_of_pos (m * 43987 + u % 2147483629 + 61) (show (0 : Int) < 2147483563 by decide)
    omega
  · rintro σ' H' ⟨m, v, rfl, m0, m1, rfl⟩
    have s1 : Same H (upd H p (.lst (ns.map V.int))) := same_new hp _
    refine fun d hd => ⟨_, rfl, 63, rfl, a, _, rfl, (s1.trans (same_new hd _)).seq hS, fun p2 hp2 => ?_⟩
    rw [hcut]
    refine ⟨p2, _, rfl, .inl (SqL.of upd_same), fun p3 hp3 => ⟨p3, _, rfl, SqL.of upd_same, fun p4 hp4 => ⟨_, rfl, ?_⟩⟩⟩
    have nd2 : d ≠ p2 := ne_of_none upd_same hp2
    have nd3 : d ≠ p3 := ne_of_none (same_new hp2 _ _ _ upd_same) hp3
    have nd4 : d ≠ p4 := ne_of_none (same_new hp3 _ _ _ (same_new hp2 _ _ _ upd_same)) hp4
    refine ⟨?_, deckL p4 m 0, rfl, (by show 3 ≤ 15; decide), ?_⟩
    · rw [upd_ne nd4, upd_ne nd3, upd_ne nd2, upd_same]
    rw [show mergeK [] (deckL p4 m 0) = deckL p4 m 0 from merge_deck]
    have s2 := s1.trans ((same_new hd (.dK [])).trans ((same_new hp2 (.lst (ns.map V.int))).trans ((same_new hp3 (.lst (ns.map V.int))).trans (same_new hp4 (.lst (ns.map V.int).reverse)))))
    have f4 : H p4 = none := (s1.trans ((same_new hd (.dK [])).trans ((same_new hp2 (.lst (ns.map V.int))).trans (same_new hp3 (.lst (ns.map V.int)))))).free hp4
    refine q d p4 _ ⟨same_out s2 (s1.free hd) _, s1.free hd, f4, ns.reverse, m, 0, upd_same, ?_, by simpa using hl, m0, m1, Int.le_refl 0, Int.le_refl 0⟩
    rw [upd_ne nd4.symm, upd_same, List.map_reverse]
theorem scDraw : FnScope ["deck", "many", "cell", "figure"] ["deck", "many"] (defScope sDraw) := ⟨rfl, rfl, rfl, by decide +kernel, rfl, by decide +kernel, by decide +kernel⟩
theorem ok_draw (F : Fun K "_law_draw" "_law_draw" sDraw f fd) (T : Blt mg) : FnOk P w K mg base CX0 1 f fd ["deck", "many"] spDraw := by
  refine F.ok scDraw (fun vs H Q E h => ?_) (fun cdv A outer s H vs Q E hr h => ?_)
  · obtain ⟨H0, dk, lf, B, m, rfl, _⟩ := h
    rfl
  obtain ⟨H0, dk, lf, B, m, rfl, ⟨h1, h2, h3, left, mixed, draws, h4, h5, h6, h7, h8, h9, h10⟩, hB, m0, m1, q⟩ := h
  have hu := hu_of hr
  refine ⟨_, pss_cons (ps_dput hu (pv 0) pe_str (pe_op op_add (pe_dget hu (pv 0) pe_str (fun _ _ => rfl)) pe_int) rfl)
    (pss_cons (ps_if (pt_cmpR (op_neD hr.units) (pe_dget hu (pv 0) pe_str (fun _ _ => rfl)) (pe_lst pa_nil) (nomark _))
      (pss_cons (ps_set (i := 2) scDraw.nd rfl (Or.inl rfl) (pe_bm0 PySem.F.plainAttrs_list PySem.F.slot_list_pop PySem.F.type_list_pop mt_pop (pe_dget hu (pv 0) pe_str (fun _ _ => rfl))))
        (pss_cons (ps_if (pt_cmpR op_ge (pv 2) (pe_op op_pow pe_int pe_int) (nomark _))
          (pss_cons (ps_expr (pe_bm PySem.F.plainAttrs_list PySem.F.slot_list_append PySem.F.type_list_append mt_append (pe_dget hu (pv 0) pe_str (fun _ _ => rfl)) (pa_cons (pe_op op_fdivW (pv 2) (pe_callB (call_max2 rfl) (by rfl) T.max (by decide +kernel) (pa_cons pe_int (pa_cons (pv 1) pa_nil)))) pa_nil)))
            (pss_one (ps_ret (pe_op op_mod (pe_callTy call_int1 (by rfl) T.int (by decide +kernel) (pa_cons (pv 2) pa_nil)) (pv 1))))) pss_nil)
        (pss_one (ps_dput hu (pv 0) pe_str (pe_op op_mod (pe_callTy call_int1 (by rfl) T.int (by decide +kernel) (pa_cons
          (pe_op op_add (pe_op op_add (pe_op op_mul (pe_dget hu (pv 0) pe_str (fun _ _ => rfl)) pe_int) (pe_op op_mod (pe_callTy call_int1 (by rfl) T.int (by decide +kernel) (pa_cons (pv 2) pa_nil)) pe_int)) pe_int) pa_nil)) pe_int) rfl)))) pss_nil)
    (pss_cons (ps_set (i := 3) scDraw.nd rfl (Or.inl rfl) (pe_op op_mod (pe_callTy call_int1 (by rfl) T.int (by decide +kernel) (pa_cons
        (pe_op op_add (pe_dget hu (pv 0) pe_str (fun _ _ => rfl)) (pe_op op_mul pe_int (pe_dget hu (pv 0) pe_str (fun _ _ => rfl)))) pa_nil)) pe_int))
    (pss_cons (ps_set (i := 3) scDraw.nd rfl (Or.inl rfl) (pe_op op_mod (pe_callTy call_int1 (by rfl) T.int (by decide +kernel) (pa_cons
        (pe_op op_add (pe_op op_add (pe_op op_mul (pv 3) (pv 3)) (pe_op op_mul pe_int (pe_dget hu (pv 0) pe_str (fun _ _ => rfl)))) pe_int) pa_nil)) pe_int))
    (pss_cons (ps_set (i := 3) scDraw.nd rfl (Or.inl rfl) (pe_op op_mod (pe_callTy call_int1 (by rfl) T.int (by decide +kernel) (pa_cons
        (pe_op op_add (pe_op op_mul (pv 3) pe_int) pe_int) pa_nil)) pe_int))
    (pss_one (ps_ret (pe_op op_mod (pe_callTy call_int1 (by rfl) T.int (by decide +kernel) (pa_cons (pe_op op_fdiv (pv 3) pe_int) pa_nil)) (pv 1)))))))), ?_⟩
  have nld : lf ≠ dk := ne_of h5 h4 (fun z => nomatch z)
  refine ⟨_, rfl, dk, _, rfl, get_draws h4, _, _, rfl, rfl, _, rfl, dk, _, rfl, dput_draws h4, ?_⟩
  dsimp only
  refine seq_if (fun σ' H' => ∃ (m' : Int) (left' : List Int) (c : Option V), σ' = [some (.ref dk), some (.int m), c, none] ∧ Only2 dk lf H H' ∧ H' dk = some (.dK (deckL lf m' (draws + 1))) ∧ H' lf = some (.lst (left'.map V.int)) ∧ left'.length ≤ 63 ∧ 0 ≤ m' ∧ m' < 2 ^ 31) ?_ ?_
  · rintro σ' H' ⟨m', left', c, rfl, e1, e2, e3, e4, e5, e6⟩
    have b1 : ∀ x : Int, 0 ≤ x % 2147483647 ∧ x % 2147483647 < 2147483647 := fun x => ⟨Int.emod_nonneg _ (by decide), Int.emod_lt_of_pos _ (by decide)⟩
    have b2 : ∀ x : Int, 0 ≤ x % 2147483629 ∧ x % 2147483629 < 2147483629 := fun x => ⟨Int.emod_nonneg _ (by decide), Int.emod_lt_of_pos _ (by decide)⟩
    have dlt : draws + 1 < 2 ^ 64 := by omega
    refine ⟨_, rfl, dk, _, rfl, get_mixed e2, _, rfl, dk, _, rfl, get_draws e2, _, _, rfl, rfl, .inl ⟨by decide, by decide⟩, _, _, rfl, rfl, .inl ⟨_, rfl, _, _, rfl, rfl, (by show (0 : Int) < 2147483647; decide), ?_⟩⟩
    obtain ⟨f0, f1⟩ := b1 (m' + 31337 * (draws + 1))
    generalize (m' + 31337 * (draws + 1)) % 2147483647 = g at f0 f1
    refine ⟨_, rfl, _, rfl, _, _, rfl, rfl, .inl ⟨by omega, by omega⟩, _, rfl, dk, _, rfl, get_draws e2, _, _, rfl, rfl, .inl ⟨by decide, by decide⟩, _, _, rfl, rfl, _, _, rfl, rfl, .inl ⟨_, rfl, _, _, rfl, rfl, (by show (0 : Int) < 2147483629; decide), ?_⟩⟩
    obtain ⟨k0, k1⟩ := b2 (g * g + 48271 * (draws + 1) + 67)
    generalize (g * g + 48271 * (draws + 1) + 67) % 2147483629 = k at k0 k1
    refine ⟨_, rfl, _, _, rfl, rfl, .inl ⟨by omega, by omega⟩, _, _, rfl, rfl, .inl ⟨_, rfl, _, _, rfl, rfl, (by show (0 : Int) < 2147483563; decide), ?_⟩⟩
    refine ⟨_, rfl, _, _, rfl, rfl, ⟨by decide, by decide⟩, .inl ⟨_, rfl, _, rfl, _, _, rfl, rfl, m0, ?_⟩⟩
    exact q _ _ (Int.emod_nonneg _ (by omega)) (Int.emod_lt_of_pos _ m0) (e1.grow h1 h2 h3) ⟨e1.same h1 h2 h3, h2, h3, left', m', draws + 1, e2, e3, e4, e5, e6, by omega, by omega⟩
  intro fin
  have g1 : Only2 dk lf H (upd H dk (.dK (deckL lf mixed (draws + 1)))) := Only2.refl.at_d
  have g5 : upd H dk (.dK (deckL lf mixed (draws + 1))) lf = some (.lst (left.map V.int)) := (upd_ne nld).trans h5
  refine ⟨_, rfl, dk, _, rfl, get_left upd_same, Nat.zero_le _, fun p hp => ?_⟩
  have npd : dk ≠ p := ne_of_none upd_same hp
  have npl : lf ≠ p := ne_of_none g5 hp
  have k1 : upd (upd H dk (.dK (deckL lf mixed (draws + 1)))) p (.lst []) dk = some (.dK (deckL lf mixed (draws + 1))) := (upd_ne npd).trans upd_same
  have k5 : upd (upd H dk (.dK (deckL lf mixed (draws + 1)))) p (.lst []) lf = some (.lst (left.map V.int)) := (upd_ne npl).trans g5
  have kS : Only2 dk lf H (upd (upd H dk (.dK (deckL lf mixed (draws + 1)))) p (.lst [])) := g1.new hp
  refine ⟨_, _, ints_dp k5, ints_dp (ns := []) upd_same, ints_shaped _, ints_shaped [], _, rfl, ?_⟩
  rw [show PyData.eqv (.list (left.map PyData.int)) (.list ([].map PyData.int)) = left.isEmpty from eqv_nil left]
  cases hl : left.isEmpty with
  | true =>
    refine iteF ?_
    exact fin _ _ ⟨mixed, left, none, rfl, kS, k1, k5, h6, h7, h8⟩
  | false =>
    refine iteT ?_
    have ne : left ≠ [] := fun z => by simp [z] at hl
    refine ⟨_, rfl, dk, _, rfl, get_left k1, .inl ⟨rfl, _, SqL.of k5⟩, lf, _, _, rfl, rfl, k5, last_at ne, ?_⟩
    generalize left.getLast ne = cell
    have ndl : (left.map V.int).dropLast = (left.dropLast).map V.int := (List.map_dropLast ..).symm
    have l63 : left.dropLast.length < 63 := by
      have : 0 < left.length := List.length_pos_iff.mpr ne
      rw [List.length_dropLast]
      omega
    rw [ndl]
    have j1 : upd (upd (upd H dk (.dK (deckL lf mixed (draws + 1)))) p (.lst [])) lf (.lst (left.dropLast.map V.int)) dk = some (.dK (deckL lf mixed (draws + 1))) := (upd_ne nld.symm).trans k1
    have jS : Only2 dk lf H (upd (upd (upd H dk (.dK (deckL lf mixed (draws + 1)))) p (.lst [])) lf (.lst (left.dropLast.map V.int))) := kS.at_l
    refine ⟨_, rfl, 10, 18, rfl, rfl, ⟨by decide, by decide, by decide⟩, _, _, rfl, rfl, _, rfl, ?_⟩
    refine ite2 (fun _ => ?_) (fun _ => ?_)
    · have mx : (0 : Int) < (if m > 2 then m else 2) ∧ (if m > 2 then m else 2 : Int) < 2 ^ 60 := by split <;> omega
      refine ⟨_, rfl, dk, _, rfl, get_left j1, .inl ⟨rfl, _, SqL.of upd_same⟩, _, rfl, _, rfl, 2, m, rfl, cell, _, rfl, rfl, wide_div (b := 60) mx.1 (by omega) (by decide) (by decide), lf, _, _, rfl, rfl, upd_same, (by rw [List.length_map]; exact sl_lt (by omega)), ?_⟩
      refine ⟨_, rfl, .inl ⟨_, rfl, _, rfl, _, _, rfl, rfl, m0, ?_⟩⟩
      have jT := jS.at_l (o := .lst (left.dropLast.map V.int ++ [.int (cell / (if m > 2 then m else 2))]))
      refine q _ _ (Int.emod_nonneg _ (by omega)) (Int.emod_lt_of_pos _ m0) (jT.grow h1 h2 h3) ⟨jT.same h1 h2 h3, h2, h3, left.dropLast ++ [cell / (if m > 2 then m else 2)], mixed, draws + 1, (upd_ne nld.symm).trans j1, ?_, by rw [List.length_append]; exact l63, h7, h8, by omega, by omega⟩
      rw [upd_same, List.map_append]
      rfl
    · have b : ∀ x : Int, 0 ≤ x % 2147483587 ∧ x % 2147483587 < 2147483587 := fun x => ⟨Int.emod_nonneg _ (by decide), Int.emod_lt_of_pos _ (by decide)⟩
      refine ⟨_, rfl, dk, _, rfl, get_mixed j1, _, _, rfl, rfl, .inr ⟨by decide, by decide⟩, _, rfl, .inl ⟨_, rfl, _, _, rfl, rfl, (by show (0 : Int) < 2147483629; decide), _, _, rfl, rfl, _, _, rfl, rfl, .inl ⟨_, rfl, _, _, rfl, rfl, (by show (0 : Int) < 2147483587; decide), _, rfl, dk, _, rfl, dput_mixed j1, ?_⟩⟩⟩
      obtain ⟨c0, c1⟩ := b (mixed * 39373 + cell % 2147483629 + 61)
      exact fin _ _ ⟨_, left.dropLast, some (.int cell), rfl, jS.at_d, upd_same, (upd_ne nld).trans upd_same, by omega, c0, by omega⟩
theorem scPick : FnScope ["deck", "some"] ["deck", "some"] (defScope sPick) := ⟨rfl, rfl, rfl, by decide +kernel, rfl, by decide +kernel, by decide +kernel⟩
/-- a def that stands in the text, and how it is called -/
structure Call1 (P : Program) (w : World) (K : PySem.W.Frag) (mg : Str → Option Value) (base : Heap) (x : Str) (k : Nat) (ps : List Str) (sp : Sp) : Prop where
  ex : ∃ f fd, FnOk P w K mg base CX0 k f fd ps sp ∧ Binds K fd ps [] ∧ PySem.W.keepIn K (.ref f) = true ∧ mg x = some (.ref f)
theorem ok_pick (F : Fun K "_law_pick" "_law_pick" sPick f fd) (T : Blt mg) (C : Call1 P w K mg base "_law_draw" 1 ["deck", "many"] spDraw) : FnOk P w K mg base CX0 2 f fd ["deck", "some"] spPick := by
  obtain ⟨g, gd, G, bG, kG, mG⟩ := C.ex
  refine F.ok scPick (fun vs H Q E h => ?_) (fun cdv A outer s H vs Q E hr h => ?_)
  · obtain ⟨H0, dk, lf, l, B, xs, rfl, _⟩ := h
    rfl
  obtain ⟨H0, dk, lf, l, B, xs, rfl, hD, hB, hl, n1, n2, h0, h1, q⟩ := h
  refine ⟨_, pss_one (ps_ret (pe_ix ix_list (pv 1) (pe_call G hr rfl mG kG bG .nil pass0 (pa_cons (pv 0) (pa_cons (pe_callB call_len_seq (by rfl) T.len PySem.boot_len (pa_cons (pv 1) pa_nil)) pa_nil))) (fun _ _ => rfl))), ?_⟩
  refine ⟨_, rfl, _, rfl, _, rfl, l, _, rfl, .inl (SqL.of hl), H0, dk, lf, B, _, rfl, hD, hB, by omega, by omega, fun r H' r0 r1 hG hD' => ?_⟩
  have hi : r.toNat < xs.length := by omega
  have e : r = ((r.toNat : Nat) : Int) := by omega
  have z := atI_nat (List.getElem?_eq_getElem hi)
  rw [← e] at z
  exact ⟨l, xs, r, xs[r.toNat], rfl, rfl, SqL.of (hG.frame _ _ n1 n2 hl), z, q _ H' (List.getElem_mem hi) hG hD'⟩
end
end Zk

set_option maxHeartbeats 4000000
/-! D2: any drawn value. -/
namespace Zk
open PySem PySem.Spec PyProof.Rows L2
def anyCost : Nat → Nat
  | 0 => 2
  | n + 1 => 3 * anyCost n + 3
def anyLen : Nat → Nat
  | 0 => 10000
  | n + 1 => 3 * (anyLen n + 2) + 10000
/-- texts and tuples of a length that calls allow -/
def Lens (d : PyData) : Prop := (∀ y, d = .str y → y.length ≤ 5000) ∧ ∀ ds, d = .tuple ds → ds.length ≤ 500
theorem lens_of {d : PyData} (h1 : ∀ y, d ≠ .str y) (h2 : ∀ ds, d ≠ .tuple ds) : Lens d := ⟨fun y e => absurd e (h1 y), fun ds e => absurd e (h2 ds)⟩
theorem lens_str {x : Str} (h : x.length ≤ 5000) : Lens (.str x) := ⟨fun y e => (by injection e with e; rw [← e]; exact h), fun _ e => nomatch e⟩
theorem lens_tup {ds : List PyData} (h : ds.length ≤ 500) : Lens (.tuple ds) := ⟨fun _ e => (nomatch e), fun es e => (by injection e with e; rw [← e]; exact h)⟩
def AnyFine (n : Nat) (d : PyData) : Prop := Fine (2 * n + 2) (anyLen n) d ∧ Lens d
/-- _law_any(deck, deep), deep at most n -/
def spAny (n : Nat) : Sp := fun vs H Q _ => ∃ (H0 : Hp) (dk lf : Addr) (B m : Nat), vs = [.ref dk, .int (m : Int)] ∧ m ≤ n ∧ DeckAt H0 H dk lf B ∧ B + anyCost n < 2 ^ 59 ∧
  ∀ v d H0' H', Grow dk lf H0 H H0' H' → DeckAt H0' H' dk lf (B + anyCost n) → Sd H0' v d → AnyFine n d → Q v H'
theorem anyCost_pos (n : Nat) : 2 ≤ anyCost n := by
  cases n with
  | zero => exact Nat.le_refl 2
  | succ n => unfold anyCost; omega
theorem anyLen_pos (n : Nat) : 10000 ≤ anyLen n := by
  cases n with
  | zero => exact Nat.le_refl _
  | succ n => unfold anyLen; omega
theorem anyFine_mono {n m : Nat} (h : m ≤ n) {d : PyData} (f : AnyFine m d) : AnyFine n d := by
  have : anyLen m ≤ anyLen n := by
    induction h with
    | refl => exact Nat.le_refl _
    | step h ih =>
      have : ∀ k, anyLen k ≤ anyLen (k + 1) := fun k => by show _ ≤ 3 * (anyLen k + 2) + 10000; omega
      exact Nat.le_trans ih (this _)
  exact ⟨f.1.mono (by omega) this, f.2⟩
def menu1 : List V := [.int 0, .int 1, .int (-1), .int 7, .int (10 ^ 29), .int (-(10 ^ 20)), .int 2, .int 5]
def menu2 : List V := [.str "", .str "a", .str "set", .str "input", .str "x\ny", .str "~"]
def menu3 : List V := [.bl true, .bl false, .non]
theorem menu1_fine {v : V} (h : v ∈ menu1) (n : Nat) : ∃ d, (∀ H, Sd H v d) ∧ AnyFine n d := by
  have p := anyLen_pos n
  have key : ∀ i : Int, i.natAbs.log2 < 1920 → ∃ d, (∀ H, Sd H (.int i) d) ∧ AnyFine n d := fun i hi => ⟨.int i, fun _ => .int i, (fine_int hi).mono (by omega) (by omega), lens_of (fun _ e => nomatch e) fun _ e => nomatch e⟩
  simp only [menu1, List.mem_cons, List.not_mem_nil, or_false] at h
  rcases h with rfl | rfl | rfl | rfl | rfl | rfl | rfl | rfl <;> exact key _ (by decide +kernel)
theorem menu2_fine {v : V} (h : v ∈ menu2) (n : Nat) : ∃ d, (∀ H, Sd H v d) ∧ AnyFine n d := by
  have p := anyLen_pos n
  have key : ∀ x : Str, (x.cps.toList.all fun c => decide (c < 16 ^ 8)) = true → x.length ≤ 9 → ∃ d, (∀ H, Sd H (.str x) d) ∧ AnyFine n d := fun x hx hl =>
    ⟨.str x, fun _ => .str x, (fine_str fun c hc => of_decide_eq_true (List.all_eq_true.mp hx c hc)).mono (by omega) (by omega), lens_str (by omega)⟩
  simp only [menu2, List.mem_cons, List.not_mem_nil, or_false] at h
  rcases h with rfl | rfl | rfl | rfl | rfl | rfl <;> exact key _ (by decide +kernel) (by decide +kernel)
theorem menu3_fine {v : V} (h : v ∈ menu3) (n : Nat) : ∃ d, (∀ H, Sd H v d) ∧ AnyFine n d := by
  have p := anyLen_pos n
  simp only [menu3, List.mem_cons, List.not_mem_nil, or_false] at h
  rcases h with rfl | rfl | rfl
  · exact ⟨.bool true, fun _ => .bl true, (fine_bool true).mono (by omega) (by omega), lens_of (fun _ e => nomatch e) fun _ e => nomatch e⟩
  · exact ⟨.bool false, fun _ => .bl false, (fine_bool false).mono (by omega) (by omega), lens_of (fun _ e => nomatch e) fun _ e => nomatch e⟩
  · exact ⟨.none, fun _ => .non, fine_none.mono (by omega) (by omega), lens_of (fun _ e => nomatch e) fun _ e => nomatch e⟩
/-- a statement, and then what all its ways come to -/
theorem seq_to {t1 ts : TS} {D : Ends} {σ : List (Option V)} {H : Hp} (I : List (Option V) → Hp → Prop) (hI : ∀ σ H, I σ H → ts D σ H) (h : (∀ σ H, I σ H → ts D σ H) → t1 { D with nx := ts D } σ H) : tSeq t1 ts D σ H := h hI
section
variable {P : Program} {w : World} {K : PySem.W.Frag} {mg : Str → Option Value} {base : Heap} {f : Addr} {fd : FuncData}
theorem scAny : FnScope ["deck", "deep", "way", "some", "turn"] ["deck", "deep"] (defScope sAny) := ⟨rfl, rfl, rfl, by decide +kernel, rfl, by decide +kernel, by decide +kernel⟩
/-- one more turn of the recursion: n is 0, or the def keeps its promise for one less -/
theorem ok_any {n : Nat} (F : Fun K "_law_any" "_law_any" sAny f fd) (T : Blt mg) (bF : Binds K fd ["deck", "deep"] []) (mF : mg "_law_any" = some (.ref f)) (C1 : Call1 P w K mg base "_law_draw" 1 ["deck", "many"] spDraw) (C2 : Call1 P w K mg base "_law_pick" 2 ["deck", "some"] spPick)
    (R : FnOk P w K mg base CX0 (n + 3) f fd ["deck", "deep"] (fun vs H Q E => 0 < n ∧ spAny (n - 1) vs H Q E)) : FnOk P w K mg base CX0 (n + 3 + 1) f fd ["deck", "deep"] (spAny n) := by
  obtain ⟨f1, d1, G1, b1, k1, m1⟩ := C1.ex
  obtain ⟨f2, d2, G2, b2, k2, m2⟩ := C2.ex
  refine F.ok scAny (fun vs H Q E h => ?_) (fun cdv A outer s H vs Q E hr h => ?_)
  · obtain ⟨H0, dk, lf, B, m, rfl, _⟩ := h
    rfl
  obtain ⟨H0, dk, lf, B, m, rfl, hm, hD, hB, q⟩ := h
  have hr1 : Room 1 _ := hr.mono (by omega)
  have hr2 : Room 2 _ := hr.mono (by omega)
  refine ⟨_, pss_cons (ps_set (i := 2) scAny.nd rfl (Or.inl rfl) (pe_call G1 hr1 rfl m1 k1 b1 .nil pass0 (pa_cons (pv 0) (pa_cons pe_int pa_nil))))
    (pss_cons (ps_if (pt_cmpR op_lt (pv 2) pe_int (nomark _)) (pss_one (ps_ret (pe_call G2 hr2 rfl m2 k2 b2 .nil pass0 (pa_cons (pv 0) (pa_cons (pe_lst (pa_cons pe_int (pa_cons pe_int (pa_cons (pe_un un_neg pe_int) (pa_cons pe_int
      (pa_cons (pe_op op_pow pe_int pe_int) (pa_cons (pe_un un_neg (pe_op op_pow pe_int pe_int)) (pa_cons pe_int (pa_cons pe_int pa_nil))))))))) pa_nil))))) pss_nil)
    (pss_cons (ps_if (pt_cmpR op_lt (pv 2) pe_int (nomark _)) (pss_one (ps_ret (pe_call G2 hr2 rfl m2 k2 b2 .nil pass0 (pa_cons (pv 0) (pa_cons (pe_lst (pa_cons pe_str (pa_cons pe_str (pa_cons pe_str (pa_cons pe_str
      (pa_cons pe_str (pa_cons pe_str pa_nil))))))) pa_nil))))) pss_nil)
    (pss_cons (ps_if (pt_cmpR op_eq (pv 2) pe_int (nomark _)) (pss_one (ps_ret (pe_call G2 hr2 rfl m2 k2 b2 .nil pass0 (pa_cons (pv 0) (pa_cons (pe_lst (pa_cons pe_bl (pa_cons pe_bl (pa_cons pe_non pa_nil)))) pa_nil))))) pss_nil)
    (pss_cons (ps_set (i := 3) scAny.nd rfl (Or.inl rfl) (pe_ifExp (pt_cmpR op_gt (pv 1) pe_int (nomark _))
        (pe_lc (own := [("turn", 4)]) (g := gName 4) (tt := tYes) rfl scAny.nd (pi_range1 (by rfl) T.range (pa_cons (pe_call G1 hr1 rfl m1 k1 b1 .nil pass0 (pa_cons (pv 0) (pa_cons pe_int pa_nil))) pa_nil))
          (blkOk_by (N := ["deck", "deep", "way", "some", "turn"]) (sc := defScope sAny) (by decide +kernel)) (fun _ _ _ _ _ => pg_name (i := 4) scAny.nd rfl (Or.inl rfl)) (fun _ _ _ _ _ => pts_nil)
          (fun _ _ _ _ _ => pe_call R hr rfl mF F.kp bF .nil pass0 (pa_cons (pv 0) (pa_cons (pe_op op_sub (pv 1) pe_int) pa_nil))))
        (pe_lst pa_nil)))
    (pss_cons (ps_if (pt_cmpR op_eq (pv 2) pe_int (nomark _)) (pss_one (ps_ret (pv 3))) pss_nil)
    (pss_one (ps_ret (pe_ifExp (pt_cmpR op_eq (pv 2) pe_int (nomark _))
      (pe_disp (pps_cons pe_str (pv 3) (pps_cons pe_int (pe_callB call_len_seq (by rfl) T.len PySem.boot_len (pa_cons (pv 3) pa_nil)) pps_nil)) rfl rfl (by intro z; cases z) (by decide))
      (pe_callTy call_tuple_of (by rfl) T.tuple (by decide +kernel) (pa_cons (pv 3) pa_nil)))))))))), ?_⟩
  have c2 := anyCost_pos n
  refine ⟨_, rfl, H0, dk, lf, B, 10, rfl, hD, by omega, by decide, by decide, fun way Hw w0 w1 gw hDw => ?_⟩
  have nd : dk ≠ lf := by
    obtain ⟨_, _, _, e1, e2, _⟩ := hD.ex
    exact ne_of e1 e2 fun z => nomatch z
  have pick : ∀ (l : Addr) (hl : Hw l = none) (xs : List V) (v : V) (H' : Hp), Grow dk lf H0 (upd Hw l (.lst xs)) H0 H' → DeckAt H0 H' dk lf (B + 1 + 1) → (∃ d, (∀ H, Sd H v d) ∧ AnyFine n d) → Q v H' := by
    rintro l hl xs v H' g D' ⟨d, sd, fd⟩
    exact q v d H0 H' (gw.trans hD hDw ((Grow.drop hl).trans hDw (hDw.drop hl) g)) (D'.mono (by omega)) (sd _) fd
  refine ⟨_, rfl, _, _, rfl, rfl, _, rfl, ?_⟩
  refine ite2 (fun _ => ?_) (fun _ => ?_)
  · refine ⟨_, rfl, _, rfl, 10, 29, rfl, rfl, ⟨by decide, by decide, by decide⟩, 10, 20, rfl, rfl, ⟨by decide, by decide, by decide⟩, _, rfl, (by show 8 ≤ sizeLine; decide), fun l hl => ?_⟩
    exact ⟨H0, dk, lf, l, B + 1, menu1, rfl, hDw.drop hl, by omega, upd_same, (hDw.ned hl).symm, (hDw.nel hl).symm, by decide, by decide, fun v H' hv g D' => pick l hl _ v H' g D' (menu1_fine hv n)⟩
  refine ⟨_, rfl, _, _, rfl, rfl, _, rfl, ?_⟩
  refine ite2 (fun _ => ?_) (fun _ => ?_)
  · refine ⟨_, rfl, (by show 6 ≤ sizeLine; decide), fun l hl => ?_⟩
    exact ⟨H0, dk, lf, l, B + 1, menu2, rfl, hDw.drop hl, by omega, upd_same, (hDw.ned hl).symm, (hDw.nel hl).symm, by decide, by decide, fun v H' hv g D' => pick l hl _ v H' g D' (menu2_fine hv n)⟩
  refine ⟨_, rfl, rfl, _, rfl, ?_⟩
  refine ite2 (fun _ => ?_) (fun _ => ?_)
  · refine ⟨_, rfl, (by show 3 ≤ sizeLine; decide), fun l hl => ?_⟩
    exact ⟨H0, dk, lf, l, B + 1, menu3, rfl, hDw.drop hl, by omega, upd_same, (hDw.ned hl).symm, (hDw.nel hl).symm, by decide, by decide, fun v H' hv g D' => pick l hl _ v H' g D' (menu3_fine hv n)⟩
  clear pick
  unfold tNext
  dsimp only
  refine (seq_to (fun σ' H' => ∃ (l : Addr) (H0' : Hp) (xs : List V) (ds : List PyData) (b : Nat), σ' = [some (.ref dk), some (.int (m : Int)), some (.int way), some (.ref l), none] ∧ Grow dk lf H0 H H0' H' ∧ DeckAt H0' H' dk lf (B + anyCost n) ∧
    H' l = some (.lst xs) ∧ H0' l = some (.lst xs) ∧ SdL H0' xs ds ∧ (∀ d ∈ ds, Fine (2 * n) b d) ∧ ds.length ≤ 3 ∧ ds.length * (b + 2) + 9000 ≤ anyLen n) ?_ ?_ : tSeq _ _ _ _ _)
  · rintro σ' H' ⟨l, H0', xs, ds, b, rfl, g, D', e1, e0, hs, hf, h3, hlen⟩
    have fl := fine_list hf
    have len := hs.len
    refine ⟨_, rfl, rfl, _, rfl, ?_⟩
    refine ite2 (fun _ => ?_) (fun _ => ?_)
    · exact ⟨_, rfl, q _ (.list ds) H0' H' g D' (.lst e0 hs) ⟨fl.mono (by omega) (by omega), lens_of (fun _ e => nomatch e) fun _ e => nomatch e⟩⟩
    refine ⟨_, rfl, rfl, _, rfl, ?_⟩
    refine ite2 (fun _ => ?_) (fun _ => ?_)
    · intro p hp
      have npl : l ≠ p := ne_of_none e1 hp
      refine ⟨_, rfl, _, rfl, l, xs, rfl, .inl (SqL.of ((upd_ne npl).trans e1)), upd_same, [(.inr ("key" : Str), .ref l), (.inl 1, .int (xs.length : Nat))], rfl, (by show 2 ≤ 15; decide), ?_⟩
      rw [show mergeK [] [((Sum.inr ("key" : Str) : Key), V.ref l), (.inl 1, .int (xs.length : Nat))] = [((Sum.inr ("key" : Str) : Key), V.ref l), (.inl 1, .int (xs.length : Nat))] from rfl, upd_upd]
      refine q _ (.dict [(.str "key", .list ds), (.int 1, .int (xs.length : Nat))]) _ _ (g.trans hD D' (Grow.new D' hp)) (D'.new hp) ?_ ?_
      · refine .dic upd_same (.cons (k := .inr ("key" : Str)) (.lst ((upd_ne npl).trans e0) (SdL.same (same_new (D'.free hp) _) hs)) (.cons (k := .inl 1) (.int _) .nil))
      · refine ⟨?_, lens_of (fun _ e => nomatch e) fun _ e => nomatch e⟩
        refine (fine_dict2 (k := ("key" : Str)) (by decide +kernel) (by decide) ?_ fl).mono (by omega) ?_
        · have : ((xs.length : Nat) : Int).natAbs ≤ 3 := by omega
          have h4 : ((xs.length : Nat) : Int).natAbs.log2 ≤ 2 := by
            match h : ((xs.length : Nat) : Int).natAbs, this with
            | 0, _ => decide
            | 1, _ => decide
            | 2, _ => decide
            | 3, _ => decide
          omega
        · have : ("key" : Str).length = 3 := rfl
          omega
    · refine ⟨_, rfl, l, xs, rfl, .inl ⟨SqL.of e1, fun p hp => ?_⟩⟩
      exact q _ (.tuple ds) _ _ (g.trans hD D' (Grow.new D' hp)) (D'.new hp) (.tup upd_same (SdL.same (same_new (D'.free hp) _) hs)) ⟨(fine_tup hf).mono (by omega) (by omega), lens_tup (by omega)⟩
  intro fin
  refine ⟨_, rfl, _, _, rfl, rfl, _, rfl, ?_⟩
  refine ite2 (fun c => ?_) (fun c => ?_)
  · have m0 : 0 < m := by
      have := of_decide_eq_true c
      omega
    obtain ⟨n', rfl⟩ : ∃ n', n = n' + 1 := ⟨n - 1, by omega⟩
    refine ⟨_, rfl, H0, dk, lf, B + 1, 4, rfl, hDw, by omega, by decide, by decide, fun r H1 r0 r1 g1 D1 => ⟨r, rfl, by omega, by omega, fun D hDn => ?_⟩⟩
    have cost : anyCost (n' + 1) = 3 * anyCost n' + 3 := rfl
    have g1' := gw.trans hD hDw g1
    have Hn : H D = none := by
      cases e : H D with
      | none => rfl
      | some o =>
        by_cases z1 : D = dk
        · exact absurd z1.symm (D1.ned hDn)
        · by_cases z2 : D = lf
          · exact absurd z2.symm (D1.nel hDn)
          · rw [g1'.frame _ _ z1 z2 e] at hDn
            cases hDn
    refine lc_range (lo := 0) (n := r.toNat) (fun i H' => ∃ (H0' : Hp) (xs : List V) (ds : List PyData), Grow dk lf H0 H H0' H' ∧ DeckAt H0' H' dk lf (B + 2 + i * anyCost n') ∧ H' D = some (.lst xs) ∧ H0' D = none ∧ SdL H0' xs ds ∧ xs.length = i ∧ ∀ d ∈ ds, AnyFine n' d)
      ⟨H0, [], [], g1'.upd' Hn, (D1.drop hDn).mono (by omega), upd_same, D1.free hDn, .nil, rfl, fun d hd => absurd hd List.not_mem_nil⟩ ?_ ?_
    · rintro i H' hi ⟨H0', xs, ds, g, D', eD, e0, hs, hl, hf⟩
      refine ⟨rfl, ?_⟩
      dsimp only [tYes]
      refine iteT ?_
      have hi3 : i ≤ 3 := by omega
      have hic : i * anyCost n' ≤ 2 * anyCost n' := Nat.mul_le_mul_right _ (by omega)
      refine ⟨_, rfl, _, rfl, _, _, rfl, rfl, Nat.succ_pos _, H0', dk, lf, B + 2 + i * anyCost n', m - 1, ?_, by omega, D', by show _ + anyCost n' < _; omega, fun v d H0'' H'' gr D'' sd fd => ?_⟩
      · show [V.ref dk, V.int ((m : Int) - 1)] = _
        rw [show (m : Int) - 1 = ((m - 1 : Nat) : Int) by omega]
      have ndD := D1.ned hDn
      have nlD := D1.nel hDn
      have f0 : H0'' D = none := (gr.fresh D _ eD).trans e0
      refine ⟨xs, gr.frame D _ ndD.symm nlD.symm eD, sl_lt (by omega), H0'', xs ++ [v], ds ++ [d], (g.trans hD D' gr).upd' Hn, (D''.change f0 ndD nlD).mono ?_, upd_same, f0, (SdL.same gr.same hs).app (.cons sd .nil), by rw [List.length_append, hl]; rfl, fun e he => ?_⟩
      · rw [Nat.succ_mul]
        show _ + anyCost n' ≤ _
        omega
      · rcases List.mem_append.mp he with he | he
        · exact hf e he
        · rw [List.mem_singleton.mp he]
          exact fd
    · rintro H' ⟨H0', xs, ds, g, D', eD, e0, hs, hl, hf⟩
      have hr3 : r.toNat ≤ 3 := by omega
      have hrc : r.toNat * anyCost n' ≤ 3 * anyCost n' := Nat.mul_le_mul_right _ hr3
      have len := hs.len
      refine fin _ _ ⟨D, upd H0' D (.lst xs), xs, ds, anyLen n', rfl, g.keep Hn e0, (D'.keep eD (D1.ned hDn) (D1.nel hDn)).mono (by omega), eD, upd_same, SdL.same (same_new e0 _) hs, fun d hd => (hf d hd).1.mono (by omega) (Nat.le_refl _), by omega, ?_⟩
      have : ds.length * (anyLen n' + 2) ≤ 3 * (anyLen n' + 2) := Nat.mul_le_mul_right _ (by omega)
      show _ ≤ 3 * (anyLen n' + 2) + 10000
      omega
  · refine ⟨Nat.zero_le _, fun p hp => ?_⟩
    have pos := anyLen_pos n
    have Hn : H p = none := by
      cases e : H p with
      | none => rfl
      | some o =>
        by_cases z1 : p = dk
        · exact absurd z1.symm (hDw.ned hp)
        · by_cases z2 : p = lf
          · exact absurd z2.symm (hDw.nel hp)
          · rw [gw.frame _ _ z1 z2 e] at hp
            cases hp
    exact fin _ _ ⟨p, upd H0 p (.lst []), [], [], 0, rfl, gw.trans hD hDw (Grow.new hDw hp), (hDw.new hp).mono (by omega), upd_same, upd_same, .nil, fun d hd => absurd hd List.not_mem_nil, Nat.zero_le _, by show 0 * (0 + 2) + 9000 ≤ _; omega⟩
end
end Zk

set_option maxHeartbeats 4000000
/-! K4: the program's looks at values: is_integer, is_letter, is_pair. -/
namespace Zk
open PySem PySem.Spec PyProof.Rows L2 GxR

/-- a def whose code object is known -/
structure FunC (K : PySem.W.Frag) (x qual : Str) (st : Stmt) (f : Addr) (fd : FuncData) (c : Addr) : Prop where
  ex : ∃ (oc : Value) (od : Option Addr) (kV doc pm : Value) (an : Option Addr) (ct : Value) (osl : Array (Option Value)),
    fd = PySem.W.fnOf x qual (defArgs st) (defBody st) (defScope st) .none kV doc pm an (.ref c) ct ∧ K.lookup f = some ⟨oc, od, .func fd, osl⟩ ∧ PySem.W.codeIn K (.ref c) qual = true
  kp : PySem.W.keepIn K (.ref f) = true
section
variable {P : Program} {w : World} {K : PySem.W.Frag} {mg : Str → Option Value} {base : Heap} {f : Addr} {fd : FuncData} {c : Addr}
theorem FunC.fn {x qual : Str} {st : Stmt} (F : FunC K x qual st f fd c) : Fun K x qual st f fd :=
  let ⟨oc, od, kV, doc, pm, an, ct, osl, e, l, h⟩ := F.ex
  ⟨⟨oc, od, kV, doc, pm, an, .ref c, ct, osl, e, l, h⟩, F.kp⟩
theorem FunC.ok {x qual : Str} {st : Stmt} {N ps : List Str} {k : Nat} {sp : Sp} (F : FunC K x qual st f fd c) (S : FnScope N ps (defScope st)) (len : ∀ vs H Q E, sp vs H Q E → vs.length = ps.length)
    (hbody : ∀ (A : Around) (outer : List Env) (s : Shared) (H : Hp) (vs : List V) (Q : VK) (E : XK), Room k (A.deeper (envOfC qual (defScope st) s.heap.objs.size f (.ref c))) → sp vs H Q E →
      ∃ t, PSs (cxOf CX0 P w K mg base N qual (defScope st) f (.ref c) A outer s H E).nox (defBody st) t ∧ t { nx := fun _ H' => Q .non H', rt := Q } (start N vs) H) : FnOk P w K mg base CX0 (k + 1) f fd ps sp := by
  obtain ⟨oc, od, kV, doc, pm, an, ct, osl, rfl, lk, hcd⟩ := F.ex
  refine fn_of lk hcd S len fun A outer s H vs Q E hr hsp => ?_
  obtain ⟨t, h, q⟩ := hbody A outer s H vs Q E hr hsp
  exact ⟨t, h.nox, q⟩
end
/-- the names of built-ins that are not the program's own -/
structure Blt2 (mg : Str → Option Value) : Prop extends Blt mg where
  isinstance : mg "isinstance" = none
  bool : mg "bool" = none
  str : mg "str" = none
  all : mg "all" = none
  sum : mg "sum" = none
  sorted : mg "sorted" = none
  min : mg "min" = none

/-! ### what they tell of data -/
def isLetC (c : Nat) : Bool := decide (97 ≤ c ∧ c ≤ 122)
def isLetS (x : Str) : Bool := match x.cps.toList with
  | [c] => isLetC c
  | _ => false
def isLetD : PyData → Bool
  | .str x => isLetS x
  | _ => false
def isWordD : PyData → Bool
  | .str x => x.cps.toList.all isLetC
  | _ => false
def isPairD : PyData → Bool
  | .tuple [.int e, .int c] => decide (0 ≤ e) && decide (1 ≤ c)
  | _ => false
abbrev sIsInt : Stmt := top 1
abbrev sIsLet : Stmt := top 2
abbrev sIsPair : Stmt := top 11
def spD (g : PyData → Bool) : Sp := fun vs H Q _ => ∃ x d, vs = [x] ∧ Sd H x d ∧ Q (.bl (g d)) H
/-- strings of a length that the line allows -/
def spLet : Sp := fun vs H Q _ => ∃ x d, vs = [x] ∧ Sd H x d ∧ (∀ y, d = .str y → y.length ≤ sizeLine) ∧ Q (.bl (isLetD d)) H
section
variable {P : Program} {w : World} {K : PySem.W.Frag} {mg : Str → Option Value} {base : Heap} {f : Addr} {fd : FuncData}
theorem scIsInt : FnScope ["thing"] ["thing"] (defScope sIsInt) := ⟨rfl, rfl, rfl, by decide +kernel, rfl, by decide +kernel, by decide +kernel⟩
theorem ok_isInt (F : Fun K "is_integer" "is_integer" sIsInt f fd) (T : Blt2 mg) : FnOk P w K mg base CX0 1 f fd ["thing"] (spD isIntD) := by
  refine F.ok scIsInt (fun vs H Q E h => ?_) (fun cdv A outer s H vs Q E hr h => ?_)
  · obtain ⟨x, d, rfl, _⟩ := h
    rfl
  obtain ⟨x, d, rfl, sd, q⟩ := h
  refine ⟨_, pss_one (ps_ret (pe_and (pe_isD .int (pv 0) (by rfl) T.isinstance (by rfl) T.int (by decide +kernel)) (pe_one (pe_not (pe_isD .bool (pv 0) (by rfl) T.isinstance (by rfl) T.bool (by decide +kernel)))))), ?_⟩
  refine ⟨_, rfl, _, d, rfl, sd, _, rfl, ?_⟩
  cases sd <;> simp only [isNumD] <;> first
    | exact q
    | exact ⟨_, rfl, _, _, rfl, Sd.bl _, _, rfl, q⟩
    | exact ⟨_, rfl, _, _, rfl, Sd.int _, _, rfl, q⟩
theorem len_toNat (x : Str) : (x.length : Nat) = x.cps.toList.length := by simp [Str.length]
theorem isLetS_one (c : Nat) : isLetS ⟨#[c]⟩ = isLetC c := rfl
theorem letS_not {x : Str} (h : x.length ≠ 1) : isLetS x = false := by
  unfold isLetS
  split
  · rename_i c e
    exact absurd (by rw [len_toNat, e]; rfl) h
  · rfl
theorem letS_is {x : Str} (h : x.length = 1) : ∃ c, x = ⟨#[c]⟩ := by
  obtain ⟨a⟩ := x
  have h : a.size = 1 := h
  obtain ⟨c, e⟩ := Array.size_eq_one_iff.mp h
  exact ⟨c, by rw [e]⟩
theorem sgl_lt (a b : Nat) : ([a] : List Nat) < [b] ↔ a < b := by
  constructor
  · intro h
    cases h with
    | rel h => exact h
    | cons h => exact nomatch h
  · exact fun h => .rel h
theorem scIsLet : FnScope ["thing"] ["thing"] (defScope sIsLet) := ⟨rfl, rfl, rfl, by decide +kernel, rfl, by decide +kernel, by decide +kernel⟩
theorem ok_isLet (F : Fun K "is_letter" "is_letter" sIsLet f fd) (T : Blt2 mg) : FnOk P w K mg base CX0 1 f fd ["thing"] spLet := by
  refine F.ok scIsLet (fun vs H Q E h => ?_) (fun cdv A outer s H vs Q E hr h => ?_)
  · obtain ⟨x, d, rfl, _⟩ := h
    rfl
  obtain ⟨x, d, rfl, sd, hl, q⟩ := h
  refine ⟨_, pss_one (ps_ret (pe_and (pe_isD .str (pv 0) (by rfl) T.isinstance (by rfl) T.str (by decide +kernel)) (pe_and (pe_cmpR op_eq (pe_callB call_len_str (by rfl) T.len PySem.boot_len (pa_cons (pv 0) pa_nil)) pe_int (nomark _)) (pe_one (pe_chain op_le_str op_le_str pe_str (pv 0) pe_str))))), ?_⟩
  refine ⟨_, rfl, _, d, rfl, sd, _, rfl, ?_⟩
  cases sd with
  | str y =>
    simp only [isStrD, if_true]
    refine ⟨_, rfl, y, rfl, hl y rfl, rfl, _, rfl, ?_⟩
    by_cases hy : y.length = 1
    · obtain ⟨c, rfl⟩ := letS_is hy
      rw [if_pos (decide_eq_true (show V.int ((⟨#[c]⟩ : Str).length : Nat) = V.int 1 from rfl))]
      refine ⟨_, rfl, _, _, rfl, rfl, _, rfl, ?_⟩
      have e1 : (!decide ((⟨#[c]⟩ : Str).cps.toList < ("a" : Str).cps.toList)) = decide (97 ≤ c) := by
        show (!decide ([c] < [97])) = _
        rw [decide_eq_decide.mpr (sgl_lt c 97)]
        by_cases z : 97 ≤ c
        · rw [decide_eq_true z, decide_eq_false (by omega)]
          rfl
        · rw [decide_eq_false z, decide_eq_true (by omega)]
          rfl
      have e2 : (!decide (("z" : Str).cps.toList < (⟨#[c]⟩ : Str).cps.toList)) = decide (c ≤ 122) := by
        show (!decide ([122] < [c])) = _
        rw [decide_eq_decide.mpr (sgl_lt 122 c)]
        by_cases z : c ≤ 122
        · rw [decide_eq_true z, decide_eq_false (by omega)]
          rfl
        · rw [decide_eq_false z, decide_eq_true (by omega)]
          rfl
      have eq : isLetD (.str ⟨#[c]⟩) = (decide (97 ≤ c) && decide (c ≤ 122)) := by
        show decide (97 ≤ c ∧ c ≤ 122) = _
        rw [Bool.decide_and]
      rw [e1]
      rw [eq] at q
      cases h1 : decide (97 ≤ c) with
      | true =>
        rw [h1] at q
        refine iteT ⟨_, _, rfl, rfl, ?_⟩
        rw [e2]
        simpa using q
      | false =>
        rw [h1] at q
        exact iteF (by simpa using q)
    · have hy2 : ¬ V.int (y.length : Nat) = V.int 1 := fun z => by
        injection z with z
        omega
      rw [if_neg (by simpa using hy2)]
      have e : isLetD (.str y) = false := letS_not hy
      rw [e] at q
      exact q
  | _ => simpa only [isStrD, isLetD, Bool.false_eq_true, if_false] using q

/-- a def that stands in the text -/
theorem Call1.mk' {x : Str} {k : Nat} {ps : List Str} {sp : Sp} (G : FnOk P w K mg base CX0 k f fd ps sp) (b : Binds K fd ps []) (kp : PySem.W.keepIn K (.ref f) = true) (m : mg x = some (.ref f)) : Call1 P w K mg base x k ps sp := ⟨f, fd, G, b, kp, m⟩
theorem pair_len {ds : List PyData} (h : ds.length ≠ 2) : isPairD (.tuple ds) = false := by
  unfold isPairD
  split
  · rename_i e
    cases e
    exact absurd rfl h
  · rfl
theorem scIsPair : FnScope ["thing", "exponent", "coefficient"] ["thing"] (defScope sIsPair) := ⟨rfl, rfl, rfl, by decide +kernel, rfl, by decide +kernel, by decide +kernel⟩
theorem ok_isPair (F : Fun K "is_pair" "is_pair" sIsPair f fd) (T : Blt2 mg) (C : Call1 P w K mg base "is_integer" 1 ["thing"] (spD isIntD)) : FnOk P w K mg base CX0 2 f fd ["thing"] (spD isPairD) := by
  obtain ⟨g, gd, G, bG, kG, mG⟩ := C.ex
  refine F.ok scIsPair (fun vs H Q E h => ?_) (fun cdv A outer s H vs Q E hr h => ?_)
  · obtain ⟨x, d, rfl, _⟩ := h
    rfl
  obtain ⟨x, d, rfl, sd, q⟩ := h
  refine ⟨_, pss_cons (ps_if (PW.pt (pw_or (pt_not (pt_val (pe_isD .tuple (pv 0) (by rfl) T.isinstance (by rfl) T.tuple (by decide +kernel)))) (pw_or1 (pt_cmpR op_ne (pe_callB call_len_seq (by rfl) T.len PySem.boot_len (pa_cons (pv 0) pa_nil)) pe_int (nomark _))))) (pss_one (ps_ret pe_bl)) pss_nil)
    (pss_cons (ps_asg (pv 0) (pg_tup (by rfl) (pgs_cons (pg_name (i := 1) scIsPair.nd rfl (Or.inl rfl)) (pgs_cons (pg_name (i := 2) scIsPair.nd rfl (Or.inl rfl)) pgs_nil))))
    (pss_cons (ps_if (PW.pt (pw_or (pt_not (pt_val (pe_call G hr rfl mG kG bG .nil pass0 (pa_cons (pv 1) pa_nil)))) (pw_or1 (pt_not (pt_val (pe_call G hr rfl mG kG bG .nil pass0 (pa_cons (pv 2) pa_nil))))))) (pss_one (ps_ret pe_bl)) pss_nil)
    (pss_one (ps_ret (pe_and (pe_cmpR op_ge (pv 1) pe_int (nomark _)) (pe_one (pe_cmpR op_ge (pv 2) pe_int (nomark _)))))))), ?_⟩
  refine ⟨_, rfl, _, d, rfl, sd, _, rfl, ?_⟩
  cases sd with
  | tup ha hs =>
    refine iteF ?_
    refine ⟨_, rfl, _, _, rfl, .inr (SqT.of ha), rfl, _, rfl, ?_⟩
    rename_i a xs ds
    refine ite2 (fun c => ?_) (fun c => ?_)
    · have hl : ds.length ≠ 2 := fun z => by
        rw [← hs.len] at z
        rw [z] at c
        exact absurd c (by decide)
      rw [pair_len hl] at q
      exact q
    · have hl : xs.length = 2 := by
        by_cases z : xs.length = 2
        · exact z
        · refine absurd ?_ c
          have : ¬ V.int (xs.length : Nat) = V.int 2 := fun y => by
            injection y with y
            omega
          rw [decide_eq_false this]
          rfl
      match hs, hl with
      | .cons (d := d1) h1 (.cons (d := d2) h2 .nil), _ =>
        refine ⟨_, rfl, _, _, rfl, SqT.of ha, rfl, ?_⟩
        refine ⟨_, _, rfl, _, _, rfl, rfl, ?_⟩
        refine ⟨_, rfl, _, d1, rfl, h1, _, rfl, ?_⟩
        cases h1 with
        | int e =>
          refine iteF ?_
          refine ⟨_, rfl, _, d2, rfl, h2, _, rfl, ?_⟩
          cases h2 with
          | int k =>
            refine iteF ?_
            refine ⟨_, rfl, _, _, rfl, rfl, _, rfl, ?_⟩
            have q : Q (.bl (decide (0 ≤ e) && decide (1 ≤ k))) H := q
            cases z : decide (0 ≤ e) with
            | true =>
              rw [z] at q
              exact iteT ⟨_, rfl, _, _, rfl, rfl, q⟩
            | false =>
              rw [z] at q
              exact iteF q
          | _ => exact iteT q
        | _ => exact iteT (iteT q)
  | _ => exact iteT (iteT q)
end
end Zk

set_option maxHeartbeats 4000000
/-! K5: is_ascending, is_word, is_poly. -/
namespace Zk
open PySem PySem.Spec PyProof.Rows L2 GxR
abbrev sIsAsc : Stmt := top 3
abbrev sIsWord : Stmt := top 9
abbrev sIsPoly : Stmt := top 10
/-- each before the next one -/
def ascB (ns : List Int) : Bool := (List.range (ns.length - 1)).all fun i => decide (ns.getD i 0 < ns.getD (i + 1) 0)
def fstD : PyData → Int
  | .tuple (.int e :: _) => e
  | _ => 0
def isPolyD : PyData → Bool
  | .tuple ds => ds.all isPairD && ascB (ds.map fstD)
  | _ => false
/-- what the program's own look comes to: tables may grow -/
def spAsc (T : List Addr) : Sp := fun vs H Q _ => ∃ (a : Addr) (ns : List Int), vs = [.ref a] ∧ H a = some (.lst (ns.map V.int)) ∧ ns.length ≤ 100000 ∧ Tb T H ∧ ∀ H', Sm H H' → Tb T H' → Q (.bl (ascB ns)) H'
/-- what may be passed: texts and tuples of a length that the line allows -/
def spL (T : List Addr) (g : PyData → Bool) : Sp := fun vs H Q _ => ∃ x d, vs = [x] ∧ Sd H x d ∧ (∀ y, d = .str y → y.length ≤ sizeLine) ∧ (∀ ds, d = .tuple ds → ds.length ≤ 100000) ∧ Tb T H ∧ ∀ H', Sm H H' → Tb T H' → Q (.bl (g d)) H'
section
variable {P : Program} {w : World} {K : PySem.W.Frag} {mg : Str → Option Value} {base : Heap} {f c pt : Addr} {fd : FuncData} {Ta : List Addr}
theorem scIsAsc : FnScope ["items", "at"] ["items"] (defScope sIsAsc) := ⟨rfl, rfl, rfl, by decide +kernel, rfl, by decide +kernel, by decide +kernel⟩
theorem ok_isAsc (F : FunC K "is_ascending" "is_ascending" sIsAsc f fd c) (TB : TabB base mg c pt) (hT : pt ∈ Ta) (T : Blt2 mg) : FnOk P w K mg base CX0 2 f fd ["items"] (spAsc Ta) := by
  refine F.ok scIsAsc (fun vs H Q E h => ?_) (fun A outer s H vs Q E hr h => ?_)
  · obtain ⟨a, ns, rfl, _⟩ := h
    rfl
  obtain ⟨a, ns, rfl, ha, hl, tb, q⟩ := h
  refine ⟨_, pss_one (ps_ret (pe_all (k := 0) (own := [("at", 1)]) (g := gName 1) (tt := tYes) hr (by rfl) T.all TB rfl scIsAsc.nd (gxOk_by (N := ["items", "at"]) (sc := defScope sIsAsc) (by decide +kernel)) (pi_range1 (by rfl) T.range (pa_cons (pe_op op_sub (pe_callB call_len_seq (by rfl) T.len PySem.boot_len (pa_cons (pv 0) pa_nil)) pe_int) pa_nil))
    (fun _ _ _ _ _ _ _ _ _ => pg_name (i := 1) scIsAsc.nd rfl (Or.inl rfl)) (fun _ _ _ _ _ _ _ _ _ => pts_nil)
    (fun _ _ _ _ _ _ _ _ _ => pe_cmpR op_lt (pe_ix (r := rIxL K) ix_list (pv 0) (pv 1) (fun _ _ => rfl)) (pe_ix (r := rIxL K) ix_list (pv 0) (pe_op op_add (pv 1) pe_int) (fun _ _ => rfl)) (nomark _)))), ?_⟩
  refine ⟨_, rfl, a, _, rfl, .inl (SqL.of ha), _, _, rfl, rfl, _, rfl, ?_, ?_, tb pt hT, fun H2 hB => ?_⟩
  · show -(2 ^ 62 : Int) ≤ ((ns.map V.int).length : Int) - 1
    rw [List.length_map]
    omega
  · show ((ns.map V.int).length : Int) - 1 < 2 ^ 62
    rw [List.length_map]
    omega
  have ha2 : H2 a = some (.lst (ns.map V.int)) := Tabbed.sm hB (tb pt hT) _ _ ha fun _ z => nomatch z
  have en : ((((ns.map V.int).length : Nat) : Int) - 1).toNat = ns.length - 1 := by
    rw [List.length_map]
    omega
  rw [en]
  have itm : ∀ j, j < ns.length → atI (ns.map V.int) ((j : Nat) : Int) = some (V.int (ns.getD j 0)) := fun j hj => by
    refine atI_nat ?_
    rw [List.getElem?_map, List.getElem?_eq_getElem hj, List.getD_eq_getElem?_getD, List.getElem?_eq_getElem hj]
    rfl
  refine gx_range (fun i H => H = H2 ∧ ∀ j, j < i → ns.getD j 0 < ns.getD (j + 1) 0) ⟨rfl, fun j hj => absurd hj (Nat.not_lt_zero _)⟩ ?_ ?_
  · rintro i H hi ⟨rfl, hp⟩
    refine ⟨rfl, ?_⟩
    dsimp only [tYes]
    refine iteT ?_
    have e0 : (0 : Int) + (i : Nat) = ((i : Nat) : Int) := by omega
    refine ⟨_, rfl, _, rfl, a, _, _, _, rfl, rfl, SqL.of ha2, by rw [e0]; exact itm i (by omega), ?_⟩
    refine ⟨_, rfl, _, rfl, _, _, rfl, rfl, a, _, _, _, rfl, rfl, SqL.of ha2, by rw [e0, show ((i : Nat) : Int) + 1 = ((i + 1 : Nat) : Int) by omega]; exact itm (i + 1) (by omega), ?_⟩
    refine ⟨_, _, rfl, rfl, _, rfl, ?_⟩
    by_cases z : ns.getD i 0 < ns.getD (i + 1) 0
    · refine .inl ⟨decide_eq_true z, rfl, fun j hj => ?_⟩
      by_cases e : j = i
      · rw [e]
        exact z
      · exact hp j (by omega)
    · refine .inr ⟨by rw [decide_eq_false z]; decide, ?_⟩
      have : ascB ns = false := by
        rw [← Bool.not_eq_true]
        intro y
        have := List.all_eq_true.mp y i (List.mem_range.mpr hi)
        exact z (of_decide_eq_true this)
      rw [this] at q
      rw [decide_eq_false z]
      exact q _ (Tabbed.sm hB (tb pt hT)) (Tabbed.tb hB tb)
  · rintro H ⟨rfl, hp⟩
    have : ascB ns = true := List.all_eq_true.mpr fun j hj => decide_eq_true (hp j (List.mem_range.mp hj))
    rw [this] at q
    exact q _ (Tabbed.sm hB (tb pt hT)) (Tabbed.tb hB tb)
theorem scIsWord : FnScope ["thing", "sign"] ["thing"] (defScope sIsWord) := ⟨rfl, rfl, rfl, by decide +kernel, rfl, by decide +kernel, by decide +kernel⟩
theorem ok_isWord (F : FunC K "is_word" "is_word" sIsWord f fd c) (TB : TabB base mg c pt) (hT : pt ∈ Ta) (T : Blt2 mg) (C : Call1 P w K mg base "is_letter" 1 ["thing"] spLet) : FnOk P w K mg base CX0 3 f fd ["thing"] (spL Ta isWordD) := by
  obtain ⟨g, gd, G, bG, kG, mG⟩ := C.ex
  refine F.ok scIsWord (fun vs H Q E h => ?_) (fun A outer s H vs Q E hr h => ?_)
  · obtain ⟨x, d, rfl, _⟩ := h
    rfl
  obtain ⟨x, d, rfl, sd, hl, _, tb, q⟩ := h
  refine ⟨_, pss_one (ps_ret (pe_and (pe_isD .str (pv 0) (by rfl) T.isinstance (by rfl) T.str (by decide +kernel)) (pe_one (pe_all (k := 1) (own := [("sign", 1)]) (g := gName 1) (tt := tYes) hr (by rfl) T.all TB rfl scIsWord.nd (gxOk_by (N := ["thing", "sign"]) (sc := defScope sIsWord) (by decide +kernel)) (pi_str (pv 0))
    (fun _ _ _ _ _ _ _ _ _ => pg_name (i := 1) scIsWord.nd rfl (Or.inl rfl)) (fun _ _ _ _ _ _ _ _ _ => pts_nil)
    (fun _ _ _ _ _ _ _ _ hr' => pe_call G hr' rfl mG kG bG .nil pass0 (pa_cons (pv 1) pa_nil)))))), ?_⟩
  refine ⟨_, rfl, _, d, rfl, sd, _, rfl, ?_⟩
  cases sd with
  | str y =>
    refine iteT ?_
    refine ⟨_, rfl, y, rfl, tb pt hT, fun H2 hB => ?_⟩
    refine gx_str (fun i H => H = H2 ∧ ∀ j c, j < i → y.cps.toList[j]? = some c → isLetC c = true) ⟨rfl, fun j c hj => absurd hj (Nat.not_lt_zero _)⟩ ?_ ?_
    · rintro i c H hc ⟨rfl, hp⟩
      refine ⟨rfl, ?_⟩
      dsimp only [tYes]
      refine iteT ?_
      refine ⟨_, rfl, _, _, rfl, Sd.str _, fun z e => by cases e; show 1 ≤ sizeLine; decide, _, rfl, ?_⟩
      show (isLetC c = true ∧ _) ∨ _
      by_cases z : isLetC c = true
      · refine .inl ⟨z, rfl, fun j c' hj hc' => ?_⟩
        by_cases e : j = i
        · subst e
          rw [hc] at hc'
          cases hc'
          exact z
        · exact hp j c' (by omega) hc'
      · refine .inr ⟨z, ?_⟩
        have e1 : isLetC c = false := by simpa using z
        have e2 : isWordD (.str y) = false := by
          rw [← Bool.not_eq_true]
          intro u
          have := List.all_eq_true.mp u c (List.mem_of_getElem? hc)
          exact z this
        rw [e2] at q
        show Q (.bl (isLetC c)) H
        rw [e1]
        exact q _ (Tabbed.sm hB (tb pt hT)) (Tabbed.tb hB tb)
    · rintro H ⟨rfl, hp⟩
      have e2 : isWordD (.str y) = true := List.all_eq_true.mpr fun c hc => by
        obtain ⟨j, hj⟩ := List.mem_iff_getElem?.mp hc
        exact hp j c (List.getElem?_eq_some_iff.mp hj).1 hj
      rw [e2] at q
      exact q _ (Tabbed.sm hB (tb pt hT)) (Tabbed.tb hB tb)
  | _ => exact iteF (q _ (Sm.refl _) tb)
theorem pair_of {d : PyData} (h : isPairD d = true) : ∃ e c : Int, d = .tuple [.int e, .int c] ∧ 0 ≤ e ∧ 1 ≤ c := by
  unfold isPairD at h
  split at h
  · rename_i e c
    rw [Bool.and_eq_true] at h
    exact ⟨e, c, rfl, of_decide_eq_true h.1, of_decide_eq_true h.2⟩
  · cases h
theorem sd_pair {H : Hp} {v : V} {e c : Int} (h : Sd H v (.tuple [.int e, .int c])) : ∃ t, v = .ref t ∧ H t = some (.tup [.int e, .int c]) := by
  cases h with
  | tup h1 h2 =>
    match h2 with
    | .cons (.int _) (.cons (.int _) .nil) => exact ⟨_, rfl, h1⟩
theorem scIsPoly : FnScope ["thing", "pair"] ["thing"] (defScope sIsPoly) := ⟨rfl, rfl, rfl, by decide +kernel, rfl, by decide +kernel, by decide +kernel⟩
theorem ok_isPoly (F : FunC K "is_poly" "is_poly" sIsPoly f fd c) (TB : TabB base mg c pt) (hT : pt ∈ Ta) (T : Blt2 mg) (C1 : Call1 P w K mg base "is_pair" 2 ["thing"] (spD isPairD)) (C2 : Call1 P w K mg base "is_ascending" 2 ["items"] (spAsc Ta)) : FnOk P w K mg base CX0 4 f fd ["thing"] (spL Ta isPolyD) := by
  obtain ⟨g, gd, G, bG, kG, mG⟩ := C1.ex
  obtain ⟨g2, gd2, G2, bG2, kG2, mG2⟩ := C2.ex
  refine F.ok scIsPoly (fun vs H Q E h => ?_) (fun A outer s H vs Q E hr h => ?_)
  · obtain ⟨x, d, rfl, _⟩ := h
    rfl
  obtain ⟨x, d, rfl, sd, _, hl, tb, q⟩ := h
  have hr2 : Room 2 _ := hr.mono (by omega)
  refine ⟨_, pss_cons (ps_if (PW.pt (pw_or (pt_not (pt_val (pe_isD .tuple (pv 0) (by rfl) T.isinstance (by rfl) T.tuple (by decide +kernel)))) (pw_or1 (pt_not (pt_val (pe_all (k := 2) (own := [("pair", 1)]) (g := gName 1) (tt := tYes) hr (by rfl) T.all TB rfl scIsPoly.nd (gxOk_by (N := ["thing", "pair"]) (sc := defScope sIsPoly) (by decide +kernel)) (pi_tup (pv 0))
    (fun _ _ _ _ _ _ _ _ _ => pg_name (i := 1) scIsPoly.nd rfl (Or.inl rfl)) (fun _ _ _ _ _ _ _ _ _ => pts_nil)
    (fun _ _ _ _ _ _ _ _ hr' => pe_call G hr' rfl mG kG bG .nil pass0 (pa_cons (pv 1) pa_nil)))))))) (pss_one (ps_ret pe_bl)) pss_nil)
    (pss_one (ps_ret (pe_call G2 hr2 rfl mG2 kG2 bG2 .nil pass0 (pa_cons (pe_lc (own := [("pair", 1)]) (g := gName 1) (tt := tYes) rfl scIsPoly.nd (pi_tup (pv 0)) (blkOk_by (N := ["thing", "pair"]) (sc := defScope sIsPoly) (by decide +kernel))
      (fun _ _ _ _ _ => pg_name (i := 1) scIsPoly.nd rfl (Or.inl rfl)) (fun _ _ _ _ _ => pts_nil) (fun _ _ _ _ _ => pe_ix (r := rIxT K) ix_tup (pv 1) pe_int (fun _ _ => rfl))) pa_nil)))), ?_⟩
  refine ⟨_, rfl, _, d, rfl, sd, _, rfl, ?_⟩
  cases sd with
  | @tup a xs ds ha hs =>
    refine iteF ?_
    refine ⟨_, rfl, _, rfl, ⟨_, SqT.of ha⟩, tb pt hT, fun H2 hB => ?_⟩
    have s2 := Tabbed.sm hB (tb pt hT)
    have t2 := Tabbed.tb hB tb
    have ha2 := s2 _ _ ha fun _ z => nomatch z
    have hs2 := hs.sm s2
    refine gx_tup (fun i H => H = H2 ∧ ∀ j d, j < i → ds[j]? = some d → isPairD d = true) ⟨rfl, fun j d hj => absurd hj (Nat.not_lt_zero _)⟩ (fun i H p => by rw [p.1]; exact SqT.of ha2) ?_ ?_
    · rintro i x H hx ⟨rfl, hp⟩
      obtain ⟨d, hd, sx⟩ := hs2.get hx
      refine ⟨rfl, ?_⟩
      dsimp only [tYes]
      refine iteT ?_
      refine ⟨_, rfl, _, d, rfl, sx, _, rfl, ?_⟩
      by_cases z : isPairD d = true
      · refine .inl ⟨z, rfl, fun j d' hj hd' => ?_⟩
        by_cases e : j = i
        · subst e
          rw [hd] at hd'
          cases hd'
          exact z
        · exact hp j d' (by omega) hd'
      · refine .inr ⟨z, ?_⟩
        have e1 : isPairD d = false := by simpa using z
        have e2 : isPolyD (.tuple ds) = false := by
          show (ds.all isPairD && _) = false
          have : ds.all isPairD = false := by
            rw [← Bool.not_eq_true]
            intro u
            exact z (List.all_eq_true.mp u d (List.mem_of_getElem? hd))
          rw [this]
          rfl
        rw [e2] at q
        rw [e1]
        exact ⟨_, rfl, iteT (q _ s2 t2)⟩
    · rintro H ⟨rfl, hp⟩
      have all : ∀ d ∈ ds, isPairD d = true := fun d hd => by
        obtain ⟨j, hj⟩ := List.mem_iff_getElem?.mp hd
        exact hp j d (by rw [hs.len]; exact (List.getElem?_eq_some_iff.mp hj).1) hj
      refine ⟨_, rfl, iteF ?_⟩
      have hlen := hl _ rfl
      have lxs : xs.length = ds.length := hs.len
      refine ⟨_, rfl, _, rfl, ⟨_, SqT.of ha2⟩, fun D hD => lc_tup (K := K) (fun i H' => H' = upd H D (.lst (((ds.map fstD).take i).map V.int))) rfl (fun i H' _ e => by rw [e]; exact SqT.of (same_new hD _ _ _ ha2)) ?_ ?_⟩
      · rintro i x H' hx rfl
        obtain ⟨d, hd, sx⟩ := hs2.get hx
        obtain ⟨e, k, rfl, _, _⟩ := pair_of (all d (List.mem_of_getElem? hd))
        obtain ⟨t, rfl, ht⟩ := sd_pair sx
        refine ⟨rfl, ?_⟩
        dsimp only [tYes]
        refine iteT ?_
        refine ⟨_, rfl, t, _, _, _, rfl, rfl, SqT.of (same_new hD _ _ _ ht), (show atI [V.int e, V.int k] ((0 : Nat) : Int) = some (V.int e) from atI_nat rfl), ?_⟩
        refine ⟨_, upd_same, ?_, ?_⟩
        · rw [List.length_map, List.length_take]
          exact sl_lt (by have := (List.getElem?_eq_some_iff.mp hd).1; omega)
        · rw [upd_upd]
          have : (ds.map fstD)[i]? = some e := by
            rw [List.getElem?_map, hd]
            rfl
          rw [List.take_add_one, this]
          simp
      · rintro H' rfl
        refine ⟨D, ds.map fstD, rfl, ?_, by rw [List.length_map]; exact hlen, t2.same (same_new hD _), fun H3 s3 t3 => ?_⟩
        · rw [upd_same, List.take_of_length_le (Nat.le_of_eq (by rw [List.length_map, lxs]))]
        · have e2 : isPolyD (.tuple ds) = ascB (ds.map fstD) := by
            show (ds.all isPairD && _) = _
            rw [List.all_eq_true.mpr all]
            rfl
          rw [e2] at q
          exact q _ (s2.trans ((Same.sm (same_new hD _)).trans s3)) t3
  | _ => exact iteT (iteT (q _ (Sm.refl _) tb))
end
end Zk

set_option maxHeartbeats 4000000
set_option exponentiation.threshold 1000
/-! K6: power_of, calls by keywords alone, walks over a list or a tuple. -/
namespace Zk
open PySem PySem.Spec PyProof.Rows L2 GxR
abbrev sPow : Stmt := top 13
def spPow : Sp := fun vs H Q _ => ∃ k e : Nat, vs = [.int (k : Int), .int (e : Int)] ∧ k ≤ 1000000 ∧ e ≤ 12 ∧ Q (.int (pw k e)) H
theorem pow_small {k a : Nat} (hk : k ≤ 1000000) (ha : a ≤ 16) : ((k ^ a : Nat) : Int).natAbs < 2 ^ 400 := by
  rw [Int.natAbs_natCast]
  have h1 : k ^ a ≤ (2 ^ 20) ^ a := Nat.pow_le_pow_left (by omega) a
  rw [← Nat.pow_mul] at h1
  have h2 : 2 ^ (20 * a) ≤ 2 ^ 320 := Nat.pow_le_pow_right (by decide) (by omega)
  exact Nat.lt_of_le_of_lt (Nat.le_trans h1 h2) (Nat.pow_lt_pow_right (by decide) (by decide))
def intAt (σ : L2.St) (i : Nat) : Nat := match σ[i]? with
  | some (some (.int n)) => n.toNat
  | _ => 0
/-- a call by keywords alone -/
theorem pe_callK0 {X : Cx} {CX : CXT} {k : Nat} {f : Addr} {fd : FuncData} {ps ks : List Str} {sp : Sp} {E : XK} {x : Str} {p pos : Pos} {kws : List Keyword} {tk : TA} {g : List Value → List Value → List Value} {gV : List V → List V → List V}
    (F : FnOk X.prog X.w X.K X.mg X.base CX k f fd ps sp) (hr : Room k X.A) (hg : Gl X x) (hm : X.mg x = some (.ref f)) (hk : PySem.W.keepIn X.K (.ref f) = true) (hb : KBinds X.K fd ps ks g gV) (hx : Passes CX X E)
    (hkw : PK X kws tk) (hall : (backToKw pos (keywordEach kws X.env)).all (·.1.isSome) = true := by rfl) (hks : (backToKw pos (keywordEach kws X.env)).filterMap (·.1) = ks := by rfl)
    (hdb : (x == ("__debug__" : Str)) = false := by decide)
    (hpl : ((backTo pos (starEach [] X.env)).any (·.1) || (backToKw pos (keywordEach kws X.env)).any (·.1.isNone)) = false := by rfl) :
    PE X (.Call (.Name x p) [] kws pos) (tCallK sp gV E tNil tk) := by
  refine ⟨fun pins s σ H Q I h => ?_⟩
  refine wpAny_Call_Name_kw (ld_glob I hg hm ?_ hdb)
  refine PySem.W.callWith_KW0 (h₀ := X.base) I.ok.mod.kin hk hall ?_ hpl
  refine thn (hkw.run pos pins s σ H _ I h) fun ws s2 ⟨zs, H2, I2, rz, q2⟩ => ⟨I2.kIn, ?_⟩
  rw [hks]
  exact run_fnk F hr hb hx I2 (us := []) .nil rz q2
/-- what a walk over a list or a tuple asks -/
def iSeq (K : PySem.W.Frag) (te : TE) : TI := fun σ H R => te σ H fun x H1 => (∃ a xs, x = .ref a ∧ SqL K H1 a xs ∧ R (Itl K a) H1) ∨ (∃ a xs, x = .ref a ∧ SqT K H1 a xs ∧ R (Itt K a) H1)
theorem pi_seq {X : Cx} {tg l : Expr} {tl : TE} (hl : PE X l tl) : PI X tg l (iSeq X.K tl) := by
  refine ⟨fun pins s σ H R I h => ?_⟩
  refine thn (hl.run pins s σ H _ I h) fun v s1 ⟨x, H1, I1, r1, q1⟩ => ?_
  rcases q1 with ⟨a, xs, e, hq, q⟩ | ⟨a, xs, e, hq, q⟩
  · subst e
    cases r1
    obtain ⟨its, rv, p, hz⟩ := I1.list hq
    refine wpAny_pyIter_list p.isList ?_
    refine ⟨s1.heap.objs.size, [s1.heap.objs.size], _, _, H1, rfl, I1.kept (t' := s1.toks) fun b o e => Heap.get?_push_of_some _ e, turn_list a _, ⟨_, Heap.get?_push_size _ rfl, rfl, rfl⟩, fun b hb => ?_, q⟩
    have e : b = s1.heap.objs.size := by simpa using hb
    subst e
    exact I1.fpOk (Nat.le_refl _) (I1.hok.fresh (Nat.le_refl _))
  · subst e
    cases r1
    obtain ⟨its, rv, p, hz⟩ := I1.tuple hq
    refine wpAny_pyIter_tuple (show s1.heap.IsTuple a its.toArray from p) ?_
    refine ⟨s1.heap.objs.size, [s1.heap.objs.size], _, _, H1, rfl, I1.kept (t' := s1.toks) fun b o e => Heap.get?_push_of_some _ e, turn_tuple a _, ⟨_, Heap.get?_push_size _ rfl, rfl, rfl⟩, fun b hb => ?_, q⟩
    have e : b = s1.heap.objs.size := by simpa using hb
    subst e
    exact I1.fpOk (Nat.le_refl _) (I1.hok.fresh (Nat.le_refl _))
section
variable {P : Program} {w : World} {K : PySem.W.Frag} {mg : Str → Option Value} {base : Heap} {f : Addr} {fd : FuncData}
theorem scPow : FnScope ["number", "exponent", "power", "square", "left"] ["number", "exponent"] (defScope sPow) := ⟨rfl, rfl, rfl, by decide +kernel, rfl, by decide +kernel, by decide +kernel⟩
theorem ok_pow (F : Fun K "power_of" "power_of" sPow f fd) : FnOk P w K mg base CX0 1 f fd ["number", "exponent"] spPow := by
  refine F.ok scPow (fun vs H Q E h => ?_) (fun cdv A outer s H vs Q E hr h => ?_)
  · obtain ⟨k, e, rfl, _⟩ := h
    rfl
  obtain ⟨k, e, rfl, hk, he, q⟩ := h
  refine ⟨_, pss_cons (ps_set (i := 2) scPow.nd rfl (Or.inl rfl) pe_int) (pss_cons (ps_set (i := 3) scPow.nd rfl (Or.inl rfl) (pv 0)) (pss_cons (ps_set (i := 4) scPow.nd rfl (Or.inl rfl) (pv 1))
    (pss_cons (ps_while PassesOwn.never (pt_cmpR op_gt (pv 4) pe_int (nomark _))
      (pss_cons (ps_if (pt_cmpR op_eq (pe_op op_mod (pv 4) pe_int) pe_int (nomark _)) (pss_one (ps_set (i := 2) scPow.nd rfl (Or.inl rfl) (pe_op op_mulW (pv 2) (pv 3)))) pss_nil)
      (pss_cons (ps_set (i := 3) scPow.nd rfl (Or.inl rfl) (pe_op op_mulW (pv 3) (pv 3))) (pss_one (ps_set (i := 4) scPow.nd rfl (Or.inl rfl) (pe_op op_fdiv (pv 4) pe_int))))))
    (pss_one (ps_ret (pv 2)))))), ?_⟩
  refine ⟨_, rfl, _, rfl, ?_⟩
  refine while_by (fun σ H' => ∃ j, j ≤ 4 ∧ σ = [some (.int (k : Int)), some (.int (e : Int)), some (.int ((k ^ (e % 2 ^ j) : Nat) : Int)), some (.int ((k ^ (2 ^ j) : Nat) : Int)), some (.int ((e / 2 ^ j : Nat) : Int))] ∧ H' = H) (fun σ _ => intAt σ 4) ?_ ?_ ?_
  · refine ⟨0, Nat.zero_le _, ?_, rfl⟩
    simp only [Nat.pow_zero, Nat.mod_one, Nat.div_one, Nat.pow_one]
    rfl
  · rintro σ H' ⟨j, hj, rfl, rfl⟩
    refine ⟨_, rfl, _, _, rfl, rfl, _, rfl, ?_⟩
    have hm1 : e % 2 ^ j ≤ 12 := Nat.le_trans (Nat.mod_le _ _) he
    refine ite2 (fun c => ?_) (fun c => ?_)
    · have c := of_decide_eq_true c
      have pos : 0 < e / 2 ^ j := by omega
      have hj4 : j < 4 := by
        by_cases z : j = 4
        · rw [z] at pos
          have : e / 2 ^ 4 = 0 := Nat.div_eq_of_lt (by omega)
          omega
        · omega
      have p16 : 2 ^ j ≤ 8 := Nat.le_trans (Nat.pow_le_pow_right (by decide) (show j ≤ 3 by omega)) (by decide)
      have hS : ((k ^ (2 ^ j) : Nat) : Int).natAbs < 2 ^ 400 := pow_small hk (by omega)
      have hM : ((k ^ (e % 2 ^ j) : Nat) : Int).natAbs < 2 ^ 400 := pow_small hk (by omega)
      have eM := Nat.mod_pow_succ (x := e) (b := 2) (k := j)
      have eL : e / 2 ^ (j + 1) = e / 2 ^ j / 2 := by rw [Nat.pow_succ, Nat.div_div_eq_div_mul]
      have eS : ((k ^ (2 ^ j) : Nat) : Int) * ((k ^ (2 ^ j) : Nat) : Int) = ((k ^ (2 ^ (j + 1)) : Nat) : Int) := by
        rw [← Int.natCast_mul, ← Nat.pow_add, Nat.pow_succ, Nat.mul_two]
      refine (seq_if (fun σ H1 => σ = [some (.int (k : Int)), some (.int (e : Int)), some (.int ((k ^ (e % 2 ^ (j + 1)) : Nat) : Int)), some (.int ((k ^ (2 ^ j) : Nat) : Int)), some (.int ((e / 2 ^ j : Nat) : Int))] ∧ H1 = H') ?_ ?_ : tSeq _ _ _ _ _)
      · rintro σ H1 ⟨rfl, rfl⟩
        refine ⟨_, rfl, _, rfl, _, _, rfl, rfl, wide_mul hS hS (by decide) (by decide) (by decide), ?_⟩
        refine ⟨_, rfl, _, _, rfl, rfl, ⟨by decide, by decide⟩, ?_⟩
        refine ⟨⟨j + 1, by omega, ?_, rfl⟩, ?_⟩
        · dsimp only
          rw [eS, eL]
          rfl
        · show ((((e / 2 ^ j : Nat) : Int) / 2).toNat) < (((e / 2 ^ j : Nat) : Int)).toNat
          generalize e / 2 ^ j = L at pos ⊢
          omega
      · intro fin
        refine ⟨_, rfl, _, _, rfl, rfl, (by show (0 : Int) < 2; decide), rfl, _, rfl, ?_⟩
        refine ite2 (fun c2 => ?_) (fun c2 => ?_)
        · have c2 := of_decide_eq_true c2
          injection c2 with c2
          have c3 : e / 2 ^ j % 2 = 1 := by omega
          refine ⟨_, rfl, _, rfl, _, _, rfl, rfl, wide_mul hM hS (by decide) (by decide) (by decide), ?_⟩
          refine fin _ _ ⟨?_, rfl⟩
          rw [eM, c3, Nat.mul_one, Nat.pow_add, Int.natCast_mul]
          rfl
        · have c3 : e / 2 ^ j % 2 = 0 := by
            by_cases z : e / 2 ^ j % 2 = 1
            · exact absurd (decide_eq_true (show V.int (((e / 2 ^ j : Nat) : Int) % 2) = V.int 1 from by
                have : ((e / 2 ^ j : Nat) : Int) % 2 = 1 := by omega
                rw [this])) c2
            · omega
          refine fin _ _ ⟨?_, rfl⟩
          rw [eM, c3, Nat.mul_zero, Nat.add_zero]
    · have z : e / 2 ^ j = 0 := by
        by_cases z : e / 2 ^ j = 0
        · exact z
        · refine absurd (decide_eq_true ?_) c
          have := Nat.pos_of_ne_zero z
          show (0 : Int) < ((e / 2 ^ j : Nat) : Int)
          omega
      refine ⟨_, rfl, ?_⟩
      have lt : e < 2 ^ j := by
        have := Nat.div_add_mod e (2 ^ j)
        have h2 := Nat.mod_lt e (Nat.pow_pos (n := j) (show 0 < 2 by decide))
        rw [z] at this
        omega
      have : e % 2 ^ j = e := Nat.mod_eq_of_lt lt
      rw [this]
      exact q
  · intro σ H Q Q' hq ⟨x, h1, i, j, h2, h3, k, h4, h5⟩
    exact ⟨x, h1, i, j, h2, h3, k, h4, hq _ _ h5⟩
end
end Zk

set_option maxHeartbeats 4000000
set_option exponentiation.threshold 1000
/-! K7: value_at, check_both, gathered, sum_of, product_of. -/
namespace Zk
open PySem PySem.Spec PyProof.Rows L2 GxR
open L2.DX (itemsO itemsO_ok)
abbrev sValue : Stmt := top 12
abbrev sSum : Stmt := top 14
abbrev sProd : Stmt := top 15
abbrev sCheck : Stmt := top 16
abbrev sGath : Stmt := top 17
def pairD (x : IQ) : PyData := .tuple [.int x.1, .int x.2]
def polyD (p : List IQ) : PyData := .tuple (p.map pairD)
def PolyAt (H : Hp) (a : Addr) (p : List IQ) : Prop := ∃ ts, H a = some (.tup ts) ∧ PT H ts p
theorem PolyAt.sm {H H' : Hp} {a : Addr} {p : List IQ} (h : PolyAt H a p) (s : Sm H H') : PolyAt H' a p := let ⟨ts, e, t⟩ := h; ⟨ts, s _ _ e (fun _ z => nomatch z), PT.sm s t⟩
theorem PT.sd {H : Hp} : ∀ {ts : List V} {p : List IQ}, PT H ts p → SdL H ts (p.map pairD)
  | _, _, .nil => .nil
  | _, _, .cons ⟨t, e, h⟩ r => by
    subst e
    exact .cons (.tup h (.cons (.int _) (.cons (.int _) .nil))) (PT.sd r)
theorem PolyAt.sd {H : Hp} {a : Addr} {p : List IQ} (h : PolyAt H a p) : Sd H (.ref a) (polyD p) := let ⟨_, e, t⟩ := h; .tup e (PT.sd t)
theorem PT.get {H : Hp} : ∀ {ts : List V} {p : List IQ} {i : Nat} {v : V}, PT H ts p → ts[i]? = some v → ∃ t x, v = .ref t ∧ p[i]? = some x ∧ H t = some (.tup [.int x.1, .int x.2])
  | _, _, _, _, .nil, e => by simp at e
  | _, _, 0, _, .cons ⟨t, e1, h⟩ _, e => by
    simp at e
    subst e
    exact ⟨t, _, e1, rfl, h⟩
  | _, _, i + 1, v, .cons _ r, e => by
    obtain ⟨t, x, a, b, c⟩ := PT.get (i := i) (v := v) r (by simpa using e)
    exact ⟨t, x, a, by simpa using b, c⟩
theorem PT.app {H : Hp} : ∀ {ts us : List V} {p q : List IQ}, PT H ts p → PT H us q → PT H (ts ++ us) (p ++ q)
  | _, _, _, _, .nil, t => t
  | _, _, _, _, .cons h r, t => .cons h (PT.app r t)
/-- a polynomial: exponents at most m, coefficients at most c -/
structure Good (m c : Int) (p : List IQ) : Prop where
  asc : Asc p
  all : ∀ x ∈ p, 0 ≤ x.1 ∧ x.1 ≤ m ∧ 1 ≤ x.2 ∧ x.2 ≤ c
theorem Good.mono {m c m' c' : Int} {p : List IQ} (h : Good m c p) (h1 : m ≤ m') (h2 : c ≤ c') : Good m' c' p := ⟨h.asc, fun x hx => by
  obtain ⟨a, b, d, e⟩ := h.all x hx
  omega⟩
theorem asc_ascB {p : List IQ} (h : Asc p) : ascB ((p.map pairD).map fstD) = true := by
  have e : (p.map pairD).map fstD = p.map (·.1) := by rw [List.map_map]; exact List.map_congr_left fun _ _ => rfl
  rw [e]
  refine List.all_eq_true.mpr fun i hi => decide_eq_true ?_
  have hi := List.mem_range.mp hi
  rw [List.length_map] at hi
  have h1 : i < p.length := by omega
  have h2 : i + 1 < p.length := by omega
  have := List.pairwise_iff_getElem.mp h i (i + 1) h1 h2 (by omega)
  rw [List.getD_eq_getElem?_getD, List.getD_eq_getElem?_getD, List.getElem?_map, List.getElem?_map, List.getElem?_eq_getElem h1, List.getElem?_eq_getElem h2]
  exact this
theorem Good.poly {m c : Int} {p : List IQ} (h : Good m c p) : isPolyD (polyD p) = true := by
  show ((p.map pairD).all isPairD && ascB ((p.map pairD).map fstD)) = true
  rw [asc_ascB h.asc, Bool.and_true]
  refine List.all_eq_true.mpr fun d hd => ?_
  obtain ⟨x, hx, rfl⟩ := List.mem_map.mp hd
  obtain ⟨a, _, b, _⟩ := h.all x hx
  show (decide (0 ≤ x.1) && decide (1 ≤ x.2)) = true
  rw [decide_eq_true a, decide_eq_true b]
  rfl
theorem polyD_str {p : List IQ} : ∀ y, polyD p = .str y → y.length ≤ sizeLine := fun _ e => nomatch e
theorem polyD_len {p : List IQ} (h : p.length ≤ 100000) : ∀ ds, polyD p = .tuple ds → ds.length ≤ 100000 := fun ds e => by
  injection e with e
  rw [← e, List.length_map]
  exact h
def spValue (Ta : List Addr) : Sp := fun vs H Q _ => ∃ (a : Addr) (p : List IQ) (k : Nat), vs = [.ref a, .int (k : Int)] ∧ PolyAt H a p ∧ Good 12 (10 ^ 12) p ∧ p.length ≤ 100 ∧ k ≤ 1000000 ∧ Tb Ta H ∧ ∀ H', Sm H H' → Tb Ta H' → Q (.int (evalP p k)) H'
section
variable {P : Program} {w : World} {K : PySem.W.Frag} {mg : Str → Option Value} {base : Heap} {f : Addr} {fd : FuncData} {Ta : List Addr}
theorem scValue : FnScope ["poly", "number", "exponent", "coefficient"] ["poly", "number"] (defScope sValue) := ⟨rfl, rfl, rfl, by decide +kernel, rfl, by decide +kernel, by decide +kernel⟩
theorem ok_value (F : Fun K "value_at" "value_at" sValue f fd) (T : Blt2 mg) (C1 : Call1 P w K mg base "is_poly" 4 ["thing"] (spL Ta isPolyD)) (C2 : Call1 P w K mg base "is_integer" 1 ["thing"] (spD isIntD)) (C3 : Call1 P w K mg base "power_of" 1 ["number", "exponent"] spPow) :
    FnOk P w K mg base CX0 5 f fd ["poly", "number"] (spValue Ta) := by
  obtain ⟨g1, d1, G1, b1, k1, m1⟩ := C1.ex
  obtain ⟨g2, d2, G2, b2, k2, m2⟩ := C2.ex
  obtain ⟨g3, d3, G3, b3, k3, m3⟩ := C3.ex
  refine F.ok scValue (fun vs H Q E h => ?_) (fun cdv A outer s H vs Q E hr h => ?_)
  · obtain ⟨a, p, k, rfl, _⟩ := h
    rfl
  obtain ⟨a, p, k, rfl, hp, hg, hlen, hk, tb, q⟩ := h
  have hr1 : Room 1 _ := hr.mono (by omega)
  refine ⟨_, pss_cons (ps_if (pt_not (pt_val (pe_call G1 hr rfl m1 k1 b1 .nil pass0 (pa_cons (pv 0) pa_nil)))) (pss_one ps_never) pss_nil)
    (pss_cons (ps_if (PW.pt (pw_or (pt_not (pt_val (pe_call G2 hr1 rfl m2 k2 b2 .nil pass0 (pa_cons (pv 1) pa_nil)))) (pw_or1 (pt_cmpR op_lt (pv 1) pe_int (nomark _))))) (pss_one ps_never) pss_nil)
    (pss_one (ps_ret (pe_callB (cr_sum rfl) (by rfl) T.sum (by decide +kernel) (pa_cons (pe_lc (own := [("exponent", 2), ("coefficient", 3)]) (g := gTup K 2 (gCons (gName 2) (gCons (gName 3) gNil))) (tt := tYes) rfl scValue.nd (pi_tup (pv 0))
      (blkOk_by (N := ["poly", "number", "exponent", "coefficient"]) (sc := defScope sValue) (by decide +kernel)) (fun _ _ _ _ _ => pg_tup (by rfl) (pgs_cons (pg_name (i := 2) scValue.nd rfl (Or.inl rfl)) (pgs_cons (pg_name (i := 3) scValue.nd rfl (Or.inl rfl)) pgs_nil)))
      (fun _ _ _ _ _ => pts_nil) (fun _ _ _ _ _ => pe_op op_mulW (pv 3) (pe_call G3 hr1 rfl m3 k3 b3 .nil pass0 (pa_cons (pv 1) (pa_cons (pv 2) pa_nil))))) pa_nil))))), ?_⟩
  refine ⟨_, rfl, _, polyD p, rfl, hp.sd, polyD_str, polyD_len (by omega), tb, fun H1 s1 t1 => ?_⟩
  rw [hg.poly]
  refine ⟨_, rfl, iteF ?_⟩
  refine ⟨_, rfl, _, _, rfl, Sd.int _, _, rfl, iteF ?_⟩
  refine ⟨_, rfl, _, _, rfl, rfl, _, rfl, ?_⟩
  have nk : ¬ ((k : Int) < 0) := by omega
  rw [decide_eq_false nk]
  refine iteF ?_
  obtain ⟨ts, ha, ht⟩ := hp.sm s1
  have bits : ∀ x ∈ p, x.2.natAbs < 2 ^ 41 := fun x hx => by
    obtain ⟨_, _, h1, h2⟩ := hg.all x hx
    have : (10 : Int) ^ 12 = 1000000000000 := by decide
    omega
  refine ⟨_, rfl, a, rfl, ⟨_, SqT.of ha⟩, fun D hD => lc_tup (K := K) (xs := ts) (fun i H' => H' = upd H1 D (.lst ((p.take i).map fun x => V.int (x.2 * pw k x.1)))) rfl (fun i H' _ e => by rw [e]; exact SqT.of (same_new hD _ _ _ ha)) ?_ ?_⟩
  · rintro i v H' hv rfl
    obtain ⟨t, x, rfl, hx, hxt⟩ := PT.get ht hv
    obtain ⟨e0, e1, c0, c1⟩ := hg.all x (List.mem_of_getElem? hx)
    refine ⟨t, _, rfl, SqT.of (same_new hD _ _ _ hxt), rfl, _, _, rfl, _, _, rfl, rfl, ?_⟩
    refine ⟨rfl, ?_⟩
    dsimp only [tYes]
    refine iteT ?_
    have ex : x.1 = ((x.1.toNat : Nat) : Int) := by omega
    refine ⟨_, rfl, _, rfl, _, rfl, k, x.1.toNat, by rw [← ex]; rfl, hk, by omega, ?_⟩
    rw [← ex]
    refine ⟨_, _, rfl, rfl, wide_mul (bits x (List.mem_of_getElem? hx)) (pow_small (k := k) (a := x.1.toNat) hk (by omega)) (by decide) (by decide) (by decide), ?_⟩
    refine ⟨_, upd_same, ?_, ?_⟩
    · rw [List.length_map, List.length_take]
      exact sl_lt (by omega)
    · rw [upd_upd, List.take_add_one, hx]
      simp
  · rintro H' rfl
    refine ⟨D, p.map fun x => x.2 * pw k x.1, rfl, SqL.of ?_, ?_⟩
    · rw [upd_same, List.take_of_length_le (Nat.le_of_eq (PT.len ht).symm), List.map_map]
      rfl
    · exact q _ (s1.trans (Same.sm (same_new hD _))) (t1.same (same_new hD _))
/-- check_both of two polynomials -/
def spCheck (Ta : List Addr) : Sp := fun vs H Q _ => ∃ (a b : Addr) (p r : List IQ) (m c : Int), vs = [.ref a, .ref b] ∧ PolyAt H a p ∧ PolyAt H b r ∧ Good m c p ∧ Good m c r ∧ p.length ≤ 1000 ∧ r.length ≤ 1000 ∧ Tb Ta H ∧ ∀ H', Sm H H' → Tb Ta H' → Q .non H'
theorem scCheck : FnScope ["poly", "other"] ["poly", "other"] (defScope sCheck) := ⟨rfl, rfl, rfl, by decide +kernel, rfl, by decide +kernel, by decide +kernel⟩
theorem ok_check (F : Fun K "check_both" "check_both" sCheck f fd) (C1 : Call1 P w K mg base "is_poly" 4 ["thing"] (spL Ta isPolyD)) : FnOk P w K mg base CX0 5 f fd ["poly", "other"] (spCheck Ta) := by
  obtain ⟨g1, d1, G1, b1, k1, m1⟩ := C1.ex
  refine F.ok scCheck (fun vs H Q E h => ?_) (fun cdv A outer s H vs Q E hr h => ?_)
  · obtain ⟨a, b, p, r, m, c, rfl, _⟩ := h
    rfl
  obtain ⟨a, b, p, r, m, c, rfl, hp, hr', gp, gr, lp, lr, tb, q⟩ := h
  refine ⟨_, pss_cons (ps_if (pt_not (pt_val (pe_call G1 hr rfl m1 k1 b1 .nil pass0 (pa_cons (pv 0) pa_nil)))) (pss_one ps_never) pss_nil)
    (pss_one (ps_if (pt_not (pt_val (pe_call G1 hr rfl m1 k1 b1 .nil pass0 (pa_cons (pv 1) pa_nil)))) (pss_one ps_never) pss_nil)), ?_⟩
  refine ⟨_, rfl, _, polyD p, rfl, hp.sd, polyD_str, polyD_len (by omega), tb, fun H1 s1 t1 => ?_⟩
  rw [gp.poly]
  refine ⟨_, rfl, iteF ?_⟩
  refine ⟨_, rfl, _, polyD r, rfl, (hr'.sm s1).sd, polyD_str, polyD_len (by omega), t1, fun H2 s2 t2 => ?_⟩
  rw [gr.poly]
  exact ⟨_, rfl, iteF (q _ (s1.trans s2) t2)⟩

/-! ### dicts of ints -/
theorem valV_dI {d : List IQ} {e : Int} : valV (dI d) (.inl e) = (getK d e).map V.int := by
  unfold valV getK dI
  rw [List.find?_map, Option.map_map, Option.map_map]
  have : ((fun kv : Key × V => decide (kv.1 = Sum.inl e)) ∘ fun x : IP => ((Sum.inl x.1 : Key), V.int x.2)) = fun x : IQ => decide (x.1 = e) := by
    funext x
    show decide ((Sum.inl x.1 : Key) = Sum.inl e) = _
    by_cases z : x.1 = e
    · rw [z, decide_eq_true rfl, decide_eq_true rfl]
    · rw [decide_eq_false z, decide_eq_false fun q => z (Sum.inl.inj q)]
  rw [this]
  rfl
theorem any_dI {d : List IQ} {e : Int} : ((dI d).any fun kv => decide (kv.1 = Sum.inl e)) = d.any fun x => decide (x.1 = e) := by
  unfold dI
  rw [List.any_map]
  congr 1
  funext x
  show decide ((Sum.inl x.1 : Key) = Sum.inl e) = _
  by_cases z : x.1 = e
  · rw [z, decide_eq_true rfl, decide_eq_true rfl]
  · rw [decide_eq_false z, decide_eq_false fun q => z (Sum.inl.inj q)]
theorem putK_dI {d : List IQ} {e v : Int} : putK (dI d) (.inl e) (.int v) = dI (setK d e v) := by
  unfold putK setK
  rw [any_dI]
  split
  · unfold dI
    rw [List.map_map, List.map_map]
    refine List.map_congr_left fun x _ => ?_
    show (if (Sum.inl x.1 : Key) = Sum.inl e then ((Sum.inl x.1 : Key), V.int v) else (Sum.inl x.1, V.int x.2)) = (Sum.inl (if x.1 = e then (e, v) else x).1, V.int (if x.1 = e then (e, v) else x).2)
    by_cases z : x.1 = e
    · rw [if_pos (by rw [z]), if_pos z, z]
    · rw [if_neg fun q => z (Sum.inl.inj q), if_neg z]
  · unfold dI
    rw [List.map_append]
    rfl
theorem acc_snoc (l : List IQ) (x : IQ) : accP (l ++ [x]) = addK (accP l) x.1 x.2 := by
  unfold accP
  rw [List.foldl_append]
  rfl
theorem lex_asc {d ys : List IQ} (nd : (d.map (·.1)).Nodup) (hp : ys.Perm d) (h : ys.Pairwise fun x y => SrtO.lexB y x = false) : Asc ys := by
  have ndy : (ys.map (·.1)).Nodup := (hp.map (·.1)).nodup_iff.mpr nd
  have nd2 := List.pairwise_map.mp ndy
  refine (h.and nd2).imp fun {x y} q => ?_
  obtain ⟨q1, q2⟩ := q
  have := SrtO.lexB_no.mp q1
  omega
/-- gathered(pairs) -/
def spGath : Sp := fun vs H Q _ => ∃ (a : Addr) (ts : List V) (ps : List IQ), vs = [.ref a] ∧ H a = some (.lst ts) ∧ PT H ts ps ∧ ps.length ≤ 10000 ∧ ∀ H' b ys, Same H H' → PolyAt H' b ys → Canon ps ys → Q (.ref b) H'
theorem scGath : FnScope ["pairs", "totals", "exponent", "coefficient"] ["pairs"] (defScope sGath) := ⟨rfl, rfl, rfl, by decide +kernel, rfl, by decide +kernel, by decide +kernel⟩
theorem ok_gath (F : Fun K "gathered" "gathered" sGath f fd) (T : Blt2 mg) : FnOk P w K mg base CX0 1 f fd ["pairs"] spGath := by
  refine F.ok scGath (fun vs H Q E h => ?_) (fun cdv A outer s H vs Q E hr h => ?_)
  · obtain ⟨a, ts, ps, rfl, _⟩ := h
    rfl
  obtain ⟨a, ts, ps, rfl, ha, ht, hl, q⟩ := h
  have hu := hu_of hr
  refine ⟨_, pss_cons (ps_set (i := 1) scGath.nd rfl (Or.inl rfl) pe_dnewK)
    (pss_cons (ps_for PassesOwn.never rfl (pi_list (pv 0)) (pg_tup (by rfl) (pgs_cons (pg_name (i := 2) scGath.nd rfl (Or.inl rfl)) (pgs_cons (pg_name (i := 3) scGath.nd rfl (Or.inl rfl)) pgs_nil)))
      (pss_one (ps_dput hu (pv 1) (pv 2) (pe_op op_add (pe_dget2 hu (pv 1) (pv 2) pe_int ⟨rfl, rfl, rfl, rfl⟩) (pv 3)) rfl)))
    (pss_one (ps_ret (pe_callTy call_tuple_of (by rfl) T.tuple (by decide +kernel) (pa_cons (pe_callB (cr_sortedII rfl) (by rfl) T.sorted (by decide +kernel) (pa_cons (pe_bm0 PySem.F.plainAttrs_dict PySem.F.slot_dict_items PySem.F.type_dict_items mt_itemsK (pv 1)) pa_nil)) pa_nil))))), ?_⟩
  intro d hd
  have nad : a ≠ d := ne_of_none ha hd
  have lt := PT.len ht
  refine ⟨_, rfl, a, rfl, ⟨_, SqL.of ((upd_ne nad).trans ha)⟩, for_list (K := K) (xs := ts) (fun i σ H' => ∃ v w, σ = [some (.ref a), some (.ref d), v, w] ∧ H' = upd H d (.dK (dI (accP (ps.take i))))) ⟨_, _, rfl, rfl⟩
    (fun i σ H' _ ⟨_, _, _, e⟩ => by rw [e]; exact SqL.of ((upd_ne nad).trans ha)) ?_ ?_⟩
  · rintro i x σ H' hx ⟨v, w, rfl, rfl⟩
    obtain ⟨t, y, rfl, hy, hyt⟩ := PT.get ht hx
    refine ⟨t, _, rfl, SqT.of ((upd_ne (ne_of_none hyt hd)).trans hyt), rfl, _, _, rfl, _, _, rfl, rfl, ?_⟩
    have len : (accP (ps.take i)).length ≤ 10000 := Nat.le_trans (acc_len _) (Nat.le_trans (by rw [List.length_take]; omega) hl)
    have g := DGet.k (k := Sum.inl y.1) (upd_same (H := H) (a := d) (o := .dK (dI (accP (ps.take i)))))
    rw [valV_dI] at g
    refine ⟨_, rfl, d, rfl, .inl ⟨_, .inl upd_same⟩, _, rfl, _, g, ?_⟩
    have eo : ((getK (accP (ps.take i)) y.1).map V.int).getD (V.int 0) = V.int ((getK (accP (ps.take i)) y.1).getD 0) := by
      cases getK (accP (ps.take i)) y.1 <;> rfl
    rw [eo]
    refine ⟨_, rfl, _, _, rfl, rfl, ?_⟩
    refine ⟨_, rfl, _, rfl, d, _, rfl, DPut.k (k := Sum.inl y.1) upd_same (sl_lt (by unfold dI; rw [List.length_map]; omega)), ?_⟩
    refine ⟨_, _, rfl, ?_⟩
    rw [upd_upd, putK_dI, ← addK_set (acc_nodup _), List.take_add_one, hy]
    show _ = upd H d (.dK (dI (accP (ps.take i ++ [y]))))
    rw [acc_snoc]
  · rintro σ H' ⟨v, w, rfl, rfl⟩
    rw [List.take_of_length_le (Nat.le_of_eq lt.symm)]
    refine ⟨_, rfl, .inr (.inr (.inl ⟨rfl, .inl ⟨_, upd_same⟩⟩)), d, _, rfl, rfl, upd_same, fun v1 hv1 => ?_⟩
    have h1 : Same H (upd (upd H d (.dK (dI (accP ps)))) v1 (itemsO v1 d)) := (same_new hd _).trans (same_new hv1 _)
    refine ⟨v1, d, accP ps, rfl, upd_same, same_new hv1 _ _ _ upd_same, fun ys H' l us hp hs sm hl hus ht' => ?_⟩
    refine ⟨l, us, rfl, .inl ⟨SqL.of hus, fun b hb => ?_⟩⟩
    have s2 : Same H (upd H' b (.tup us)) := (h1.trans sm).trans (same_new hb _)
    exact q _ b ys s2 ⟨us, upd_same, PT.sm (Same.sm (same_new hb _)) ht'⟩ ⟨hp, lex_asc (acc_nodup _) hp hs⟩
/-- sum_of, product_of: f says of which pairs -/
def spTwo (Ta : List Addr) (g : List IQ → List IQ → List IQ) : Sp := fun vs H Q _ => ∃ (a b : Addr) (p r : List IQ), vs = [.ref a, .ref b] ∧ PolyAt H a p ∧ PolyAt H b r ∧ Good 1000 (10 ^ 12) p ∧ Good 1000 (10 ^ 12) r ∧ p.length ≤ 50 ∧ r.length ≤ 50 ∧ Tb Ta H ∧ ∀ H' x ys, Sm H H' → Tb Ta H' → PolyAt H' x ys → Canon (g p r) ys → Q (.ref x) H'
theorem scSum : FnScope ["poly", "other"] ["poly", "other"] (defScope sSum) := ⟨rfl, rfl, rfl, by decide +kernel, rfl, by decide +kernel, by decide +kernel⟩
theorem ok_sum (F : Fun K "sum_of" "sum_of" sSum f fd) (T : Blt2 mg) (C1 : Call1 P w K mg base "check_both" 5 ["poly", "other"] (spCheck Ta)) (C2 : Call1 P w K mg base "gathered" 1 ["pairs"] spGath) : FnOk P w K mg base CX0 6 f fd ["poly", "other"] (spTwo Ta fun p r => p ++ r) := by
  obtain ⟨g1, d1, G1, b1, k1, m1⟩ := C1.ex
  obtain ⟨g2, d2, G2, b2, k2, m2⟩ := C2.ex
  refine F.ok scSum (fun vs H Q E h => ?_) (fun cdv A outer s H vs Q E hr h => ?_)
  · obtain ⟨a, b, p, r, rfl, _⟩ := h
    rfl
  obtain ⟨a, b, p, r, rfl, hp, hq, gp, gr, lp, lr, tb, q⟩ := h
  have hr1 : Room 1 _ := hr.mono (by omega)
  refine ⟨_, pss_cons (ps_expr (pe_call G1 hr rfl m1 k1 b1 .nil pass0 (pa_cons (pv 0) (pa_cons (pv 1) pa_nil))))
    (pss_one (ps_ret (pe_call G2 hr1 rfl m2 k2 b2 .nil pass0 (pa_cons (pe_op op_cat (pe_callTy call_list_of (by rfl) T.list (by decide +kernel) (pa_cons (pv 0) pa_nil)) (pe_callTy call_list_of (by rfl) T.list (by decide +kernel) (pa_cons (pv 1) pa_nil))) pa_nil)))), ?_⟩
  refine ⟨_, rfl, _, rfl, a, b, p, r, 1000, 10 ^ 12, rfl, hp, hq, gp, gr, by omega, by omega, tb, fun H1 s1 t1 => ?_⟩
  obtain ⟨ts, ha, ht⟩ := hp.sm s1
  obtain ⟨us, hb, hu⟩ := hq.sm s1
  have l1 := PT.len ht
  have l2 := PT.len hu
  refine ⟨_, rfl, a, ts, rfl, .inr (SqT.of ha), fun l hl => ?_⟩
  have nbl : b ≠ l := ne_of_none hb hl
  refine ⟨_, rfl, b, us, rfl, .inr (SqT.of ((upd_ne nbl).trans hb)), fun l2 hl2 => ?_⟩
  have n2 : l ≠ l2 := ne_of_none upd_same hl2
  have sA : Same H1 (upd (upd H1 l (.lst ts)) l2 (.lst us)) := (same_new hl _).trans (same_new hl2 _)
  refine ⟨l, l2, ts, us, rfl, rfl, (upd_ne n2).trans upd_same, upd_same, Nat.le_of_lt (sl_lt (by omega)), fun c hc => ?_⟩
  have sB := sA.trans (same_new hc (.lst (ts ++ us)))
  refine ⟨c, ts ++ us, p ++ r, rfl, upd_same, PT.app (PT.sm (Same.sm sB) ht) (PT.sm (Same.sm sB) hu), by rw [List.length_append]; omega, fun H' x ys s2 px cx => ?_⟩
  exact q H' x ys (s1.trans (Same.sm (sB.trans s2))) (t1.same (sB.trans s2)) px cx
theorem scProd : FnScope ["poly", "other", "one", "two"] ["poly", "other"] (defScope sProd) := ⟨rfl, rfl, rfl, by decide +kernel, rfl, by decide +kernel, by decide +kernel⟩
theorem mulP_snoc (l : List IQ) (x : IQ) (r : List IQ) : mulP (l ++ [x]) r = mulP l r ++ r.map fun y => (x.1 + y.1, x.2 * y.2) := by
  unfold mulP
  rw [List.flatMap_append]
  simp
theorem ok_prod (F : Fun K "product_of" "product_of" sProd f fd) (T : Blt2 mg) (C1 : Call1 P w K mg base "check_both" 5 ["poly", "other"] (spCheck Ta)) (C2 : Call1 P w K mg base "gathered" 1 ["pairs"] spGath) : FnOk P w K mg base CX0 6 f fd ["poly", "other"] (spTwo Ta mulP) := by
  obtain ⟨g1, d1, G1, b1, k1, m1⟩ := C1.ex
  obtain ⟨g2, d2, G2, b2, k2, m2⟩ := C2.ex
  refine F.ok scProd (fun vs H Q E h => ?_) (fun cdv A outer s H vs Q E hr h => ?_)
  · obtain ⟨a, b, p, r, rfl, _⟩ := h
    rfl
  obtain ⟨a, b, p, r, rfl, hp, hq, gp, gr, lp, lr, tb, q⟩ := h
  have hr1 : Room 1 _ := hr.mono (by omega)
  refine ⟨_, pss_cons (ps_expr (pe_call G1 hr rfl m1 k1 b1 .nil pass0 (pa_cons (pv 0) (pa_cons (pv 1) pa_nil))))
    (pss_one (ps_ret (pe_call G2 hr1 rfl m2 k2 b2 .nil pass0 (pa_cons (pe_lc2 (own := [("one", 2), ("two", 3)]) (vs1 := [3]) (g := gName 2) (g1 := gName 3) (tt := tYes) (tt1 := tYes) (wi1 := iTup K (tVar 1)) rfl scProd.nd (pi_tup (pv 0)) (blkOk_by (N := ["poly", "other", "one", "two"]) (sc := defScope sProd) (by decide +kernel)) (by decide)
      (fun _ _ _ _ _ => pg_name (i := 2) scProd.nd rfl (Or.inl rfl)) (fun _ _ _ _ _ => pts_nil) (fun _ _ _ _ _ => pi_tup (pv 1)) (fun _ _ _ _ _ => pg_name (i := 3) scProd.nd rfl (Or.inl rfl)) (fun _ _ _ _ _ => pts_nil)
      (fun _ _ _ _ _ => pe_tup (pa_cons (pe_op op_add (pe_ix (r := rIxT K) ix_tup (pv 2) pe_int (fun _ _ => rfl)) (pe_ix (r := rIxT K) ix_tup (pv 3) pe_int (fun _ _ => rfl))) (pa_cons (pe_op op_mulW (pe_ix (r := rIxT K) ix_tup (pv 2) pe_int (fun _ _ => rfl)) (pe_ix (r := rIxT K) ix_tup (pv 3) pe_int (fun _ _ => rfl))) pa_nil)))) pa_nil)))), ?_⟩
  refine ⟨_, rfl, _, rfl, a, b, p, r, 1000, 10 ^ 12, rfl, hp, hq, gp, gr, by omega, by omega, tb, fun H1 s1 t1 => ?_⟩
  obtain ⟨ts, ha, ht⟩ := hp.sm s1
  obtain ⟨us, hb, hu⟩ := hq.sm s1
  have l1 := PT.len ht
  have l2 := PT.len hu
  refine ⟨_, rfl, a, rfl, ⟨_, SqT.of ha⟩, fun D hD => ?_⟩
  -- what has been made so far
  let Iv : List IQ → Hp → Prop := fun L H' => ∃ vs, H' D = some (.lst vs) ∧ PT H' vs L ∧ ∀ b o, H1 b = some o → H' b = some o
  have iv0 : Iv [] (upd H1 D (.lst [])) := ⟨[], upd_same, .nil, same_new hD _⟩
  have bits : ∀ {m c : Int} {p : List IQ}, Good 1000 (10 ^ 12) p → ∀ x ∈ p, x.2.natAbs < 2 ^ 41 := fun {m c p} g x hx => by
    obtain ⟨_, _, h1, h2⟩ := g.all x hx
    have : (10 : Int) ^ 12 = 1000000000000 := by decide
    omega
  refine ⟨fun i m H => m = ts.length - i ∧ i ≤ ts.length ∧ Iv (mulP (p.take i) r) H, ⟨ts.length, by simp, Nat.zero_le _, iv0⟩, ?_⟩
  rintro i m H2 ⟨rfl, hi, iv⟩
  by_cases hlt : i < ts.length
  · refine .inr ⟨⟨ts, ts[i], SqT.of (let ⟨_, _, _, o⟩ := iv; o _ _ ha), by simp [hlt]⟩, Iv (mulP (p.take (i + 1)) r), fun H' p' => ⟨ts.length - (i + 1), by omega, rfl, hlt, p'⟩, fun x H' y => ?_⟩
    obtain ⟨rfl, y⟩ := y
    obtain ⟨t, x, rfl, hx, hxt⟩ := PT.get ht (y ts (SqT.of (let ⟨_, _, _, o⟩ := iv; o _ _ ha)))
    refine ⟨rfl, ?_⟩
    dsimp only [tYes]
    refine iteT ?_
    refine ⟨_, rfl, b, rfl, ⟨_, SqT.of (let ⟨_, _, _, o⟩ := iv; o _ _ hb)⟩, ?_⟩
    refine ⟨fun j k H => k = us.length - j ∧ j ≤ us.length ∧ Iv (mulP (p.take i) r ++ (r.take j).map fun y => (x.1 + y.1, x.2 * y.2)) H, ⟨us.length, by simp, Nat.zero_le _, by simpa using iv⟩, ?_⟩
    rintro j k H3 ⟨rfl, hj, iv3⟩
    by_cases hlt2 : j < us.length
    · refine .inr ⟨⟨us, us[j], SqT.of (let ⟨_, _, _, o⟩ := iv3; o _ _ hb), by simp [hlt2]⟩, Iv (mulP (p.take i) r ++ (r.take (j + 1)).map fun y => (x.1 + y.1, x.2 * y.2)), fun H' p' => ⟨us.length - (j + 1), by omega, rfl, hlt2, p'⟩, fun v H' y2 => ?_⟩
      obtain ⟨rfl, y2⟩ := y2
      obtain ⟨t2, z, rfl, hz, hzt⟩ := PT.get hu (y2 us (SqT.of (let ⟨_, _, _, o⟩ := iv3; o _ _ hb)))
      obtain ⟨vs, e1, e2, old⟩ := iv3
      have hxt' := old _ _ hxt
      have hzt' := old _ _ hzt
      refine ⟨rfl, ?_⟩
      try dsimp only [tYes]
      refine iteT ?_
      have i0 : ∀ w : IQ, atI [V.int w.1, V.int w.2] ((0 : Nat) : Int) = some (V.int w.1) := fun w => atI_nat rfl
      have i1 : ∀ w : IQ, atI [V.int w.1, V.int w.2] ((1 : Nat) : Int) = some (V.int w.2) := fun w => atI_nat rfl
      refine ⟨_, rfl, t, _, _, _, rfl, rfl, SqT.of hxt', i0 x, ?_⟩
      refine ⟨_, rfl, t2, _, _, _, rfl, rfl, SqT.of hzt', i0 z, ?_⟩
      refine ⟨_, _, rfl, rfl, ?_⟩
      refine ⟨_, rfl, t, _, _, _, rfl, rfl, SqT.of hxt', i1 x, ?_⟩
      refine ⟨_, rfl, t2, _, _, _, rfl, rfl, SqT.of hzt', i1 z, ?_⟩
      refine ⟨_, _, rfl, rfl, wide_mul (bits (m := 0) (c := 0) gp x (List.mem_of_getElem? hx)) (bits (m := 0) (c := 0) gr z (List.mem_of_getElem? hz)) (by decide) (by decide) (by decide), ?_⟩
      refine ⟨by show 2 ≤ sizeLine; decide, fun w hw => ?_⟩
      have nD : D ≠ w := ne_of_none e1 hw
      refine ⟨vs, (upd_ne nD).trans e1, ?_, ?_⟩
      · have := PT.len e2
        rw [List.length_append, List.length_map, mulP_len, List.length_take, List.length_take] at this
        have h5 : min i p.length * r.length ≤ 50 * 50 := Nat.mul_le_mul (by omega) lr
        exact sl_lt (by omega)
      · have s1 := same_new (H := H') hw (.tup [V.int (x.1 + z.1), V.int (x.2 * z.2)])
        have nw : w ≠ D := nD.symm
        have e2' : PT (upd (upd H' w (.tup [V.int (x.1 + z.1), V.int (x.2 * z.2)])) D (.lst (vs ++ [V.ref w]))) vs (mulP (p.take i) r ++ (r.take j).map fun y => (x.1 + y.1, x.2 * y.2)) := by
          refine Paired.mapP e2 fun v e ⟨t, h1, h2⟩ => ⟨t, h1, ?_⟩
          rw [upd_ne (ne_of h2 e1 fun z => nomatch z)]
          exact s1 _ _ h2
        refine ⟨vs ++ [V.ref w], upd_same, ?_, fun b o hb => ?_⟩
        · rw [List.take_add_one, hz, List.map_append, ← List.append_assoc]
          exact PT.app e2' (.cons ⟨w, rfl, by rw [upd_ne nw, upd_same]⟩ .nil)
        · rw [upd_ne (ne_of_none hb hD)]
          exact s1 _ _ (old _ _ hb)
    · have e : j = us.length := by omega
      subst e
      refine .inl ⟨⟨us, SqT.of (let ⟨_, _, _, o⟩ := iv3; o _ _ hb), Nat.le_refl _⟩, ?_⟩
      rw [List.take_of_length_le (Nat.le_of_eq l2.symm)] at iv3
      rw [List.take_add_one, hx]
      show Iv (mulP (p.take i ++ [x]) r) H3
      rw [mulP_snoc]
      exact iv3
  · have e : i = ts.length := by omega
    subst e
    refine .inl ⟨⟨ts, SqT.of (let ⟨_, _, _, o⟩ := iv; o _ _ ha), Nat.le_refl _⟩, ?_⟩
    rw [List.take_of_length_le (Nat.le_of_eq l1.symm)] at iv
    obtain ⟨vs, e1, e2, old⟩ := iv
    refine ⟨D, vs, mulP p r, rfl, e1, e2, ?_, fun H' x ys s2 px cx => ?_⟩
    · rw [mulP_len]
      have h5 : p.length * r.length ≤ 50 * 50 := Nat.mul_le_mul lp lr
      omega
    · have s3 : Same H1 H' := fun b o hb => s2 _ _ (old b o hb)
      exact q H' x ys (s1.trans (Same.sm s3)) (t1.same s3) px cx
end
end Zk

set_option maxHeartbeats 4000000
set_option exponentiation.threshold 1000
/-! K8: the law's own looks and reckonings. -/
namespace Zk
open PySem PySem.Spec PyProof.Rows L2 GxR
abbrev sLInt : Stmt := top 22
abbrev sLPoly : Stmt := top 26
abbrev sLLow : Stmt := top 27
abbrev sLVal : Stmt := top 29
abbrev sLLet : Stmt := top 30
abbrev sLAdd : Stmt := top 32
abbrev sLProd : Stmt := top 33
/-- new things may have been laid -/
def spLs (g : PyData → Bool) : Sp := fun vs H Q _ => ∃ x d, vs = [x] ∧ Sd H x d ∧ (∀ ds, d = .tuple ds → ds.length ≤ 100000) ∧ ∀ H', Same H H' → Q (.bl (g d)) H'
section
variable {P : Program} {w : World} {K : PySem.W.Frag} {mg : Str → Option Value} {base : Heap} {f : Addr} {fd : FuncData}
theorem scLInt : FnScope ["thing"] ["thing"] (defScope sLInt) := ⟨rfl, rfl, rfl, by decide +kernel, rfl, by decide +kernel, by decide +kernel⟩
theorem ok_lInt (F : Fun K "_law_is_integer" "_law_is_integer" sLInt f fd) (T : Blt2 mg) : FnOk P w K mg base CX0 1 f fd ["thing"] (spD isIntD) := by
  refine F.ok scLInt (fun vs H Q E h => ?_) (fun cdv A outer s H vs Q E hr h => ?_)
  · obtain ⟨x, d, rfl, _⟩ := h
    rfl
  obtain ⟨x, d, rfl, sd, q⟩ := h
  refine ⟨_, pss_one (ps_ret (pe_and (pe_isD .int (pv 0) (by rfl) T.isinstance (by rfl) T.int (by decide +kernel)) (pe_one (pe_not (pe_isD .bool (pv 0) (by rfl) T.isinstance (by rfl) T.bool (by decide +kernel)))))), ?_⟩
  refine ⟨_, rfl, _, d, rfl, sd, _, rfl, ?_⟩
  cases sd <;> simp only [isNumD] <;> first
    | exact q
    | exact ⟨_, rfl, _, _, rfl, Sd.bl _, _, rfl, q⟩
    | exact ⟨_, rfl, _, _, rfl, Sd.int _, _, rfl, q⟩
theorem scLLet : FnScope ["thing"] ["thing"] (defScope sLLet) := ⟨rfl, rfl, rfl, by decide +kernel, rfl, by decide +kernel, by decide +kernel⟩
theorem mem_abc (c : Nat) : decide (c ∈ ("abcdefghijklmnopqrstuvwxyz" : Str).cps.toList) = isLetC c := by
  have e : ("abcdefghijklmnopqrstuvwxyz" : Str).cps.toList = (List.range 26).map (· + 97) := by decide +kernel
  rw [e]
  unfold isLetC
  refine decide_eq_decide.mpr ?_
  rw [List.mem_map]
  exact ⟨fun ⟨a, h, k⟩ => by have := List.mem_range.mp h; omega, fun h => ⟨c - 97, List.mem_range.mpr (by omega), by omega⟩⟩
theorem ok_lLet (F : Fun K "_law_is_letter" "_law_is_letter" sLLet f fd) (T : Blt2 mg) : FnOk P w K mg base CX0 1 f fd ["thing"] spLet := by
  refine F.ok scLLet (fun vs H Q E h => ?_) (fun cdv A outer s H vs Q E hr h => ?_)
  · obtain ⟨x, d, rfl, _⟩ := h
    rfl
  obtain ⟨x, d, rfl, sd, hl, q⟩ := h
  refine ⟨_, pss_one (ps_ret (pe_and (pe_isD .str (pv 0) (by rfl) T.isinstance (by rfl) T.str (by decide +kernel)) (pe_and (pe_cmpR op_eq (pe_callB call_len_str (by rfl) T.len PySem.boot_len (pa_cons (pv 0) pa_nil)) pe_int (nomark _)) (pe_one (pe_cmpR op_in_sign (pv 0) pe_str (by rfl)))))), ?_⟩
  refine ⟨_, rfl, _, d, rfl, sd, _, rfl, ?_⟩
  cases sd with
  | str y =>
    simp only [isStrD, if_true]
    refine ⟨_, rfl, y, rfl, hl y rfl, rfl, _, rfl, ?_⟩
    by_cases hy : y.length = 1
    · obtain ⟨c, rfl⟩ := letS_is hy
      rw [if_pos (decide_eq_true (show V.int ((⟨#[c]⟩ : Str).length : Nat) = V.int 1 from rfl))]
      refine ⟨_, rfl, c, _, rfl, rfl, ?_⟩
      rw [mem_abc]
      exact q
    · have hy2 : ¬ V.int (y.length : Nat) = V.int 1 := fun z => by
        injection z with z
        omega
      rw [if_neg (by simpa using hy2)]
      have e : isLetD (.str y) = false := letS_not hy
      rw [e] at q
      exact q
  | _ => simpa only [isStrD, isLetD, Bool.false_eq_true, if_false] using q
theorem scLPoly : FnScope ["thing", "pair", "at"] ["thing"] (defScope sLPoly) := ⟨rfl, rfl, rfl, by decide +kernel, rfl, by decide +kernel, by decide +kernel⟩
theorem pairs_all_false {ds : List PyData} {i : Nat} {d : PyData} (hd : ds[i]? = some d) (h : isPairD d = false) : isPolyD (.tuple ds) = false := by
  show (ds.all isPairD && _) = false
  have : ds.all isPairD = false := by
    rw [← Bool.not_eq_true]
    intro u
    have := List.all_eq_true.mp u d (List.mem_of_getElem? hd)
    rw [h] at this
    cases this
  rw [this]
  rfl
theorem ok_lPoly (F : Fun K "_law_is_poly" "_law_is_poly" sLPoly f fd) (T : Blt2 mg) (C : Call1 P w K mg base "_law_is_integer" 1 ["thing"] (spD isIntD)) : FnOk P w K mg base CX0 2 f fd ["thing"] (spLs isPolyD) := by
  obtain ⟨g, gd, G, bG, kG, mG⟩ := C.ex
  refine F.ok scLPoly (fun vs H Q E h => ?_) (fun cdv A outer s H vs Q E hr h => ?_)
  · obtain ⟨x, d, rfl, _⟩ := h
    rfl
  obtain ⟨x, d, rfl, sd, hl, q⟩ := h
  refine ⟨_, pss_cons (ps_if (pt_not (pt_val (pe_isD .tuple (pv 0) (by rfl) T.isinstance (by rfl) T.tuple (by decide +kernel)))) (pss_one (ps_ret pe_bl)) pss_nil)
    (pss_cons (ps_for PassesOwn.never rfl (pi_tup (pv 0)) (pg_name (i := 1) scLPoly.nd rfl (Or.inl rfl))
      (pss_cons (ps_if (PW.pt (pw_or (pt_not (pt_val (pe_isD .tuple (pv 1) (by rfl) T.isinstance (by rfl) T.tuple (by decide +kernel)))) (pw_or (pt_cmpR op_ne (pe_callB call_len_seq (by rfl) T.len PySem.boot_len (pa_cons (pv 1) pa_nil)) pe_int (nomark _))
          (pw_or (pt_not (pt_val (pe_call G hr rfl mG kG bG .nil pass0 (pa_cons (pe_ix (r := rIxT K) ix_tup (pv 1) pe_int (fun _ _ => rfl)) pa_nil)))) (pw_or1 (pt_not (pt_val (pe_call G hr rfl mG kG bG .nil pass0 (pa_cons (pe_ix (r := rIxT K) ix_tup (pv 1) pe_int (fun _ _ => rfl)) pa_nil)))))))))
          (pss_one (ps_ret pe_bl)) pss_nil)
        (pss_one (ps_if (PW.pt (pw_or (pt_cmpR op_lt (pe_ix (r := rIxT K) ix_tup (pv 1) pe_int (fun _ _ => rfl)) pe_int (nomark _)) (pw_or1 (pt_cmpR op_lt (pe_ix (r := rIxT K) ix_tup (pv 1) pe_int (fun _ _ => rfl)) pe_int (nomark _))))) (pss_one (ps_ret pe_bl)) pss_nil))))
    (pss_one (ps_ret (pe_cmpR (op_eqL0 hr.units0) (pe_lc (own := [("at", 2)]) (g := gName 2) (tt := _) rfl scLPoly.nd (pi_range1 (by rfl) T.range (pa_cons (pe_op op_sub (pe_callB call_len_seq (by rfl) T.len PySem.boot_len (pa_cons (pv 0) pa_nil)) pe_int) pa_nil))
      (blkOk_by (N := ["thing", "pair", "at"]) (sc := defScope sLPoly) (by decide +kernel)) (fun _ _ _ _ _ => pg_name (i := 2) scLPoly.nd rfl (Or.inl rfl))
      (fun _ _ _ _ _ => pts_one (pt_cmpR op_ge (pe_ix (r := rIxT K) ix_tup (pe_ix (r := rIxT K) ix_tup (pv 0) (pv 2) (fun _ _ => rfl)) pe_int (fun _ _ => rfl)) (pe_ix (r := rIxT K) ix_tup (pe_ix (r := rIxT K) ix_tup (pv 0) (pe_op op_add (pv 2) pe_int) (fun _ _ => rfl)) pe_int (fun _ _ => rfl)) (nomark _))) (fun _ _ _ _ _ => pv 2))
      (pe_lst pa_nil) (nomark _))))), ?_⟩
  refine ⟨_, rfl, _, d, rfl, sd, _, rfl, ?_⟩
  cases sd with
  | @tup a xs ds ha hs =>
    refine iteF ?_
    have lxs := hs.len
    have hlen := hl _ rfl
    refine ⟨_, rfl, a, rfl, ⟨_, SqT.of ha⟩, for_tup (K := K) (xs := xs) (fun i σ H' => H' = H ∧ (∃ v, σ = [some (.ref a), v, none]) ∧ ∀ j d, j < i → ds[j]? = some d → isPairD d = true) ⟨rfl, ⟨_, rfl⟩, fun j d hj => absurd hj (Nat.not_lt_zero _)⟩ (fun i σ H' _ p => by rw [p.1]; exact SqT.of ha) ?_ ?_⟩
    · rintro i x σ H' hx ⟨rfl, ⟨v, rfl⟩, hp⟩
      obtain ⟨d, hd, sx⟩ := hs.get hx
      have no : isPairD d = false → Q (.bl false) H' := fun z => by
        have := q H' (Same.refl _)
        rw [pairs_all_false hd z] at this
        exact this
      refine ⟨_, rfl, _, d, rfl, sx, _, rfl, ?_⟩
      cases sx with
      | @tup b ys es hb ht =>
        refine iteF ?_
        refine ⟨_, rfl, b, ys, rfl, .inr (SqT.of hb), rfl, _, rfl, ?_⟩
        refine ite2 (fun c => ?_) (fun c => ?_)
        · have hne : es.length ≠ 2 := fun z => by
            rw [← ht.len] at z
            rw [z] at c
            exact absurd c (by decide)
          exact iteT (no (pair_len hne))
        · have hl2 : ys.length = 2 := by
            by_cases z : ys.length = 2
            · exact z
            · refine absurd ?_ c
              have : ¬ V.int (ys.length : Nat) = V.int 2 := fun y => by
                injection y with y
                omega
              rw [decide_eq_false this]
              rfl
          match ht, hl2 with
          | .cons (v := w1) (d := d1) h1 (.cons (v := w2) (d := d2) h2 .nil), _ =>
            have i0 : atI [w1, w2] ((0 : Nat) : Int) = some w1 := atI_nat rfl
            have i1 : atI [w1, w2] ((1 : Nat) : Int) = some w2 := atI_nat rfl
            refine ⟨_, rfl, b, _, _, _, rfl, rfl, SqT.of hb, i0, _, d1, rfl, h1, _, rfl, ?_⟩
            cases h1 with
            | int e =>
              refine iteF ?_
              refine ⟨_, rfl, b, _, _, _, rfl, rfl, SqT.of hb, i1, _, d2, rfl, h2, _, rfl, ?_⟩
              cases h2 with
              | int k =>
                refine iteF ?_
                have no : (decide (0 ≤ e) && decide (1 ≤ k)) = false → Q (.bl false) H' := no
                refine ⟨_, rfl, b, _, _, _, rfl, rfl, SqT.of hb, i0, _, _, rfl, rfl, _, rfl, ?_⟩
                refine ite2 (fun c1 => ?_) (fun c1 => ?_)
                · have c1 := of_decide_eq_true c1
                  exact iteT (no (by rw [decide_eq_false (by omega)]; rfl))
                · have c1 : ¬ e < 0 := fun z => c1 (decide_eq_true z)
                  refine ⟨_, rfl, b, _, _, _, rfl, rfl, SqT.of hb, i1, _, _, rfl, rfl, _, rfl, ?_⟩
                  refine ite2 (fun c2 => ?_) (fun c2 => ?_)
                  · have c2 := of_decide_eq_true c2
                    exact no (by rw [decide_eq_false (show ¬ 1 ≤ k by omega), Bool.and_false])
                  · have c2 : ¬ k < 1 := fun z => c2 (decide_eq_true z)
                    refine ⟨rfl, ⟨_, rfl⟩, fun j d' hj hd' => ?_⟩
                    by_cases z : j = i
                    · subst z
                      rw [hd] at hd'
                      cases hd'
                      show (decide (0 ≤ e) && decide (1 ≤ k)) = true
                      rw [decide_eq_true (show 0 ≤ e by omega), decide_eq_true (show 1 ≤ k by omega)]
                      rfl
                    · exact hp j d' (by omega) hd'
              | _ => exact iteT (no rfl)
            | _ => exact iteT (iteT (no rfl))
      | _ => exact iteT (iteT (no rfl))
    · rintro σ H' ⟨rfl, ⟨v, rfl⟩, hp⟩
      have all : ∀ d ∈ ds, isPairD d = true := fun d hd => by
        obtain ⟨j, hj⟩ := List.mem_iff_getElem?.mp hd
        exact hp j d (by rw [hs.len]; exact (List.getElem?_eq_some_iff.mp hj).1) hj
      have itm : ∀ j, j < ds.length → ∃ t e k, xs[j]? = some (.ref t) ∧ H' t = some (.tup [.int e, .int k]) ∧ (ds.map fstD).getD j 0 = e := fun j hj => by
        have hx : xs[j]? = some xs[j] := List.getElem?_eq_getElem (by omega)
        obtain ⟨d, hd, sx⟩ := hs.get hx
        obtain ⟨e, k, rfl, _, _⟩ := pair_of (all d (List.mem_of_getElem? hd))
        obtain ⟨t, ex, ht⟩ := sd_pair sx
        refine ⟨t, e, k, by rw [hx, ex], ht, ?_⟩
        rw [List.getD_eq_getElem?_getD, List.getElem?_map, hd]
        rfl
      have i0 : ∀ e k : Int, atI [V.int e, V.int k] ((0 : Nat) : Int) = some (V.int e) := fun _ _ => atI_nat rfl
      have en : ((xs.length : Nat) : Int) - 1 < 2 ^ 62 ∧ -(2 ^ 62 : Int) ≤ ((xs.length : Nat) : Int) - 1 ∧ (((xs.length : Nat) : Int) - 1).toNat = ds.length - 1 := by
        rw [lxs]
        omega
      refine ⟨_, rfl, a, xs, rfl, .inr (SqT.of ha), _, _, rfl, rfl, _, rfl, en.2.1, en.1, fun D hD => ?_⟩
      rw [en.2.2]
      have sD := fun o => same_new (H := H') hD o
      refine lc_range (fun i H1 => ∃ vs, H1 = upd H' D (.lst vs) ∧ vs.length ≤ i ∧ vs.isEmpty = ((List.range i).all fun j => decide ((ds.map fstD).getD j 0 < (ds.map fstD).getD (j + 1) 0))) ⟨[], rfl, Nat.le_refl _, rfl⟩ ?_ ?_
      · rintro i H1 hi ⟨vs, rfl, hv, hem⟩
        obtain ⟨t1, e1, k1, x1, h1, g1⟩ := itm i (by omega)
        obtain ⟨t2, e2, k2, x2, h2, g2⟩ := itm (i + 1) (by omega)
        refine ⟨rfl, ?_⟩
        have z0 : (0 : Int) + (i : Nat) = ((i : Nat) : Int) := by omega
        refine ⟨_, rfl, _, rfl, a, _, _, _, rfl, rfl, SqT.of (sD _ _ _ ha), by rw [z0]; exact atI_nat x1, ?_⟩
        refine ⟨t1, _, _, _, rfl, rfl, SqT.of (sD _ _ _ h1), i0 _ _, ?_⟩
        refine ⟨_, rfl, _, rfl, _, _, rfl, rfl, a, _, _, _, rfl, rfl, SqT.of (sD _ _ _ ha), by rw [z0, show ((i : Nat) : Int) + 1 = ((i + 1 : Nat) : Int) by omega]; exact atI_nat x2, ?_⟩
        refine ⟨t2, _, _, _, rfl, rfl, SqT.of (sD _ _ _ h2), i0 _ _, ?_⟩
        refine ⟨_, _, rfl, rfl, _, rfl, ?_⟩
        have nx : ((List.range (i + 1)).all fun j => decide ((ds.map fstD).getD j 0 < (ds.map fstD).getD (j + 1) 0)) = (vs.isEmpty && decide (e1 < e2)) := by
          rw [List.range_succ, List.all_append, hem]
          simp only [List.all_cons, List.all_nil, Bool.and_true, g1, g2]
        refine ite2 (fun c => ?_) (fun c => ?_)
        · have c := of_decide_eq_true c
          refine ⟨_, rfl, _, upd_same, sl_lt (by omega), vs ++ [.int (0 + (i : Nat))], by rw [upd_upd], by rw [List.length_append]; show vs.length + 1 ≤ _; omega, ?_⟩
          rw [nx, decide_eq_false (by omega), Bool.and_false]
          simp
        · have c : ¬ e2 ≤ e1 := fun z => c (decide_eq_true z)
          refine ⟨vs, rfl, by omega, ?_⟩
          rw [nx, decide_eq_true (by omega), Bool.and_true]
      · rintro H1 ⟨vs, rfl, hv, hem⟩
        refine ⟨Nat.zero_le _, fun l hl => ?_⟩
        have nDl : D ≠ l := ne_of_none upd_same hl
        refine ⟨D, l, vs, rfl, rfl, SqL.of ((upd_ne nDl).trans upd_same), SqL.of upd_same, ?_⟩
        have e2 : isPolyD (.tuple ds) = vs.isEmpty := by
          show (ds.all isPairD && ascB _) = _
          rw [List.all_eq_true.mpr all, hem]
          unfold ascB
          rw [List.length_map]
          rfl
        rw [e2] at q
        exact q _ ((sD _).trans (same_new hl _))
  | _ => exact iteT (q _ (Same.refl _))
end
end Zk

set_option maxHeartbeats 4000000
set_option exponentiation.threshold 1000
/-! K9: _law_is_low, _law_value, _law_added, _law_product. -/
namespace Zk
open PySem PySem.Spec PyProof.Rows L2 GxR
def lowB (p : List IQ) : Bool := decide (p.length ≤ 20) && p.all fun x => decide (x.1 ≤ 12) && decide (x.2 ≤ 10 ^ 12)
def spLow : Sp := fun vs H Q _ => ∃ (a : Addr) (p : List IQ), vs = [.ref a] ∧ PolyAt H a p ∧ p.length ≤ 100000 ∧ ∀ H', Same H H' → Q (.bl (lowB p)) H'
def spLVal : Sp := fun vs H Q _ => ∃ (a : Addr) (p : List IQ) (k : Nat), vs = [.ref a, .int (k : Int)] ∧ PolyAt H a p ∧ Good 12 (10 ^ 12) p ∧ p.length ≤ 100 ∧ k ≤ 1000000 ∧ Q (.int (evalP p k)) H
/-- _law_added(pairs), a list or a tuple -/
def spLAdd (K : PySem.W.Frag) : Sp := fun vs H Q _ => ∃ (a : Addr) (ts : List V) (ps : List IQ), vs = [.ref a] ∧ (H a = some (.lst ts) ∨ H a = some (.tup ts)) ∧ PT H ts ps ∧ ps.length < 64 ∧ ∀ H' b ys, Same H H' → PolyAt H' b ys → Canon ps ys → Q (.ref b) H'
def spLProd : Sp := fun vs H Q _ => ∃ (a b : Addr) (p r : List IQ), vs = [.ref a, .ref b] ∧ PolyAt H a p ∧ PolyAt H b r ∧ Good 1000 (10 ^ 12) p ∧ Good 1000 (10 ^ 12) r ∧ p.length * r.length < 64 ∧ r.length ≤ 50 ∧ ∀ H' x ys, Same H H' → PolyAt H' x ys → Canon (mulP p r) ys → Q (.ref x) H'
section
variable {P : Program} {w : World} {K : PySem.W.Frag} {mg : Str → Option Value} {base : Heap} {f : Addr} {fd : FuncData}
theorem scLLow : FnScope ["poly", "pair"] ["poly"] (defScope sLLow) := ⟨rfl, rfl, rfl, by decide +kernel, rfl, by decide +kernel, by decide +kernel⟩
theorem ok_lLow (F : Fun K "_law_is_low" "_law_is_low" sLLow f fd) (T : Blt2 mg) : FnOk P w K mg base CX0 1 f fd ["poly"] spLow := by
  refine F.ok scLLow (fun vs H Q E h => ?_) (fun cdv A outer s H vs Q E hr h => ?_)
  · obtain ⟨a, p, rfl, _⟩ := h
    rfl
  obtain ⟨a, p, rfl, ⟨ts, ha, ht⟩, hl, q⟩ := h
  refine ⟨_, pss_one (ps_ret (pe_and (pe_cmpR op_le (pe_callB call_len_seq (by rfl) T.len PySem.boot_len (pa_cons (pv 0) pa_nil)) pe_int (nomark _)) (pe_one (pe_cmpR (op_eqL0 hr.units0) (pe_lc (own := [("pair", 1)]) (g := gName 1) (tt := _) rfl scLLow.nd (pi_tup (pv 0))
      (blkOk_by (N := ["poly", "pair"]) (sc := defScope sLLow) (by decide +kernel)) (fun _ _ _ _ _ => pg_name (i := 1) scLLow.nd rfl (Or.inl rfl))
      (fun _ _ _ _ _ => pts_one (PW.pt (pw_or (pt_cmpR op_gt (pe_ix (r := rIxT K) ix_tup (pv 1) pe_int (fun _ _ => rfl)) pe_int (nomark _)) (pw_or1 (pt_cmpR op_gt (pe_ix (r := rIxT K) ix_tup (pv 1) pe_int (fun _ _ => rfl)) (pe_op op_pow pe_int pe_int) (nomark _)))))) (fun _ _ _ _ _ => pv 1))
      (pe_lst pa_nil) (nomark _))))), ?_⟩
  have lt := PT.len ht
  refine ⟨_, rfl, a, ts, rfl, .inr (SqT.of ha), _, _, rfl, rfl, _, rfl, ?_⟩
  have e1 : decide (((ts.length : Nat) : Int) ≤ 20) = decide (p.length ≤ 20) := decide_eq_decide.mpr (by omega)
  rw [e1]
  by_cases h20 : p.length ≤ 20
  · rw [decide_eq_true h20]
    refine iteT ?_
    have i0 : ∀ w : IQ, atI [V.int w.1, V.int w.2] ((0 : Nat) : Int) = some (V.int w.1) := fun w => atI_nat rfl
    have i1 : ∀ w : IQ, atI [V.int w.1, V.int w.2] ((1 : Nat) : Int) = some (V.int w.2) := fun w => atI_nat rfl
    refine ⟨_, rfl, a, rfl, ⟨_, SqT.of ha⟩, fun D hD => lc_tup (K := K) (xs := ts) (fun i H1 => ∃ vs, H1 = upd H D (.lst vs) ∧ vs.length ≤ i ∧ vs.isEmpty = ((p.take i).all fun x => decide (x.1 ≤ 12) && decide (x.2 ≤ 10 ^ 12))) ⟨[], rfl, Nat.le_refl _, rfl⟩
      (fun i H1 _ ⟨_, e, _⟩ => by rw [e]; exact SqT.of (same_new hD _ _ _ ha)) ?_ ?_⟩
    · rintro i v H1 hv ⟨vs, rfl, hlv, hem⟩
      have hi := (List.getElem?_eq_some_iff.mp hv).1
      obtain ⟨t, x, rfl, hx, hxt⟩ := PT.get ht hv
      have hxt' := same_new hD (.lst vs) _ _ hxt
      refine ⟨rfl, ?_⟩
      refine ⟨_, rfl, t, _, _, _, rfl, rfl, SqT.of hxt', i0 x, _, _, rfl, rfl, _, rfl, ?_⟩
      have nx : ((p.take (i + 1)).all fun x => decide (x.1 ≤ 12) && decide (x.2 ≤ 10 ^ 12)) = (vs.isEmpty && (decide (x.1 ≤ 12) && decide (x.2 ≤ 10 ^ 12))) := by
        rw [List.take_add_one, hx, List.all_append, hem]
        simp
      have add : ((decide (x.1 ≤ 12) && decide (x.2 ≤ 10 ^ 12)) = false) → ∃ acc, upd H D (.lst vs) D = some (.lst acc) ∧ acc.length < sizeLine ∧ ∃ vs', upd (upd H D (.lst vs)) D (.lst (acc ++ [V.ref t])) = upd H D (.lst vs') ∧ vs'.length ≤ i + 1 ∧ vs'.isEmpty = ((p.take (i + 1)).all fun x => decide (x.1 ≤ 12) && decide (x.2 ≤ 10 ^ 12)) := fun z =>
        ⟨vs, upd_same, sl_lt (by omega), vs ++ [.ref t], by rw [upd_upd], by rw [List.length_append]; show vs.length + 1 ≤ _; omega, by rw [nx, z, Bool.and_false]; simp⟩
      refine ite2 (fun c => ?_) (fun c => ?_)
      · have c := of_decide_eq_true c
        exact iteT ⟨_, rfl, add (by rw [decide_eq_false (by omega)]; rfl)⟩
      · have c : ¬ (12 : Int) < x.1 := fun z => c (decide_eq_true z)
        refine ⟨_, rfl, t, _, _, _, rfl, rfl, SqT.of hxt', i1 x, 10, 12, rfl, rfl, ⟨by decide, by decide, by decide⟩, _, _, rfl, rfl, _, rfl, ?_⟩
        refine ite2 (fun c2 => ?_) (fun c2 => ?_)
        · have c2 := of_decide_eq_true c2
          have c2 : (10 : Int) ^ 12 < x.2 := c2
          exact ⟨_, rfl, add (by rw [decide_eq_false (show ¬ x.2 ≤ 10 ^ 12 by omega), Bool.and_false])⟩
        · have c2 : ¬ (10 : Int) ^ 12 < x.2 := fun z => c2 (decide_eq_true z)
          refine ⟨vs, rfl, by omega, ?_⟩
          rw [nx, decide_eq_true (show x.1 ≤ 12 by omega), decide_eq_true (show x.2 ≤ 10 ^ 12 by omega), Bool.and_true, Bool.and_true]
    · rintro H1 ⟨vs, rfl, hlv, hem⟩
      refine ⟨Nat.zero_le _, fun l hl => ?_⟩
      have nDl : D ≠ l := ne_of_none upd_same hl
      refine ⟨D, l, vs, rfl, rfl, SqL.of ((upd_ne nDl).trans upd_same), SqL.of upd_same, ?_⟩
      rw [List.take_of_length_le (Nat.le_of_eq lt.symm)] at hem
      have e2 : lowB p = vs.isEmpty := by
        unfold lowB
        rw [decide_eq_true h20, hem]
        rfl
      rw [e2] at q
      exact q _ ((same_new hD _).trans (same_new hl _))
  · rw [decide_eq_false h20]
    have e2 : lowB p = false := by
      unfold lowB
      rw [decide_eq_false h20]
      rfl
    rw [e2] at q
    exact iteF (q _ (Same.refl _))
theorem scLVal : FnScope ["poly", "n", "found", "e", "c", "turn"] ["poly", "n"] (defScope sLVal) := ⟨rfl, rfl, rfl, by decide +kernel, rfl, by decide +kernel, by decide +kernel⟩
theorem ok_lVal (F : Fun K "_law_value" "_law_value" sLVal f fd) (T : Blt2 mg) : FnOk P w K mg base CX0 1 f fd ["poly", "n"] spLVal := by
  refine F.ok scLVal (fun vs H Q E h => ?_) (fun cdv A outer s H vs Q E hr h => ?_)
  · obtain ⟨a, p, k, rfl, _⟩ := h
    rfl
  obtain ⟨a, p, k, rfl, ⟨ts, ha, ht⟩, hg, hl, hk, q⟩ := h
  refine ⟨_, pss_cons (ps_set (i := 2) scLVal.nd rfl (Or.inl rfl) pe_int)
    (pss_cons (ps_for PassesOwn.never rfl (pi_tup (pv 0)) (pg_tup (by rfl) (pgs_cons (pg_name (i := 3) scLVal.nd rfl (Or.inl rfl)) (pgs_cons (pg_name (i := 4) scLVal.nd rfl (Or.inl rfl)) pgs_nil)))
      (pss_cons (ps_for PassesOwn.never rfl (pi_range1 (by rfl) T.range (pa_cons (pe_callB (call_min2 rfl) (by rfl) T.min (by decide +kernel) (pa_cons (pv 3) (pa_cons pe_int pa_nil))) pa_nil)) (pg_name (i := 5) scLVal.nd rfl (Or.inl rfl))
        (pss_one (ps_set (i := 4) scLVal.nd rfl (Or.inl rfl) (pe_op op_mulW (pv 4) (pv 1)))))
      (pss_one (ps_set (i := 2) scLVal.nd rfl (Or.inl rfl) (pe_op op_add (pv 2) (pv 4))))))
    (pss_one (ps_ret (pv 2)))), ?_⟩
  have lt := PT.len ht
  have bits : ∀ x ∈ p, ∀ i, i ≤ 12 → (x.2 * ((k ^ i : Nat) : Int)).natAbs < 2 ^ (41 + 400) := fun x hx i hi => by
    obtain ⟨_, _, h1, h2⟩ := hg.all x hx
    have : (10 : Int) ^ 12 = 1000000000000 := by decide
    exact wide_lt (by omega) (pow_small hk (by omega))
  refine ⟨_, rfl, a, rfl, ⟨_, SqT.of ha⟩, for_tup (K := K) (xs := ts) (fun i σ H' => H' = H ∧ ∃ u v w, σ = [some (.ref a), some (.int (k : Int)), some (.int (evalP (p.take i) k)), u, v, w]) ⟨rfl, _, _, _, rfl⟩ (fun i σ H' _ e => by rw [e.1]; exact SqT.of ha) ?_ ?_⟩
  · rintro i v σ H' hv ⟨rfl, u1, u2, u3, rfl⟩
    obtain ⟨t, x, rfl, hx, hxt⟩ := PT.get ht hv
    have hxm := List.mem_of_getElem? hx
    obtain ⟨e0, e1, c0, c1⟩ := hg.all x hxm
    refine ⟨t, _, rfl, SqT.of hxt, rfl, _, _, rfl, _, _, rfl, rfl, ?_⟩
    have ex : x.1 = ((x.1.toNat : Nat) : Int) := by omega
    have mn : (if (24 : Int) < x.1 then 24 else x.1) = x.1 := if_neg (by omega)
    refine ⟨_, rfl, _, _, rfl, ?_⟩
    rw [mn]
    refine ⟨_, rfl, by omega, by omega, ?_⟩
    refine for_range (lo := 0) (n := x.1.toNat) (fun j σ H1 => H1 = H' ∧ ∃ w, σ = [some (.ref a), some (.int (k : Int)), some (.int (evalP (p.take i) k)), some (.int x.1), some (.int (x.2 * ((k ^ j : Nat) : Int))), w]) ⟨rfl, u3, by simp⟩ ?_ ?_
    · rintro j σ H1 hj ⟨rfl, w, rfl⟩
      refine ⟨_, rfl, _, rfl, _, _, rfl, rfl, wide_mul (bits x hxm j (by omega)) (b := 20) (by rw [Int.natAbs_natCast]; omega) (by decide) (by decide) (by decide), ?_⟩
      refine ⟨rfl, some (.int (0 + (j : Nat))), ?_⟩
      rw [Nat.pow_succ, Int.natCast_mul, ← Int.mul_assoc]
      rfl
    · rintro σ H1 ⟨rfl, w, rfl⟩
      refine ⟨_, rfl, _, rfl, _, _, rfl, rfl, ?_⟩
      refine ⟨rfl, some (.int x.1), some (.int (x.2 * ((k ^ x.1.toNat : Nat) : Int))), w, ?_⟩
      have : evalP (p.take (i + 1)) k = evalP (p.take i) k + x.2 * ((k ^ x.1.toNat : Nat) : Int) := by
        unfold evalP
        rw [List.take_add_one, hx, lin_app]
        simp [lin, pw]
      rw [this]
      rfl
  · rintro σ H' ⟨rfl, u1, u2, u3, rfl⟩
    rw [List.take_of_length_le (Nat.le_of_eq lt.symm)]
    exact ⟨_, rfl, q⟩
theorem scLAdd : FnScope ["pairs", "found", "e", "c"] ["pairs"] (defScope sLAdd) := ⟨rfl, rfl, rfl, by decide +kernel, rfl, by decide +kernel, by decide +kernel⟩
theorem ok_lAdd (F : Fun K "_law_added" "_law_added" sLAdd f fd) (T : Blt2 mg) : FnOk P w K mg base CX0 1 f fd ["pairs"] (spLAdd K) := by
  refine F.ok scLAdd (fun vs H Q E h => ?_) (fun cdv A outer s H vs Q E hr h => ?_)
  · obtain ⟨a, ts, ps, rfl, _⟩ := h
    rfl
  obtain ⟨a, ts, ps, rfl, ha, ht, hl, q⟩ := h
  have hu := hu_of hr
  refine ⟨_, pss_cons (ps_set (i := 1) scLAdd.nd rfl (Or.inr rfl) pe_dnewK)
    (pss_cons (ps_for PassesOwn.never rfl (pi_seq (pv 0)) (pg_tup (by rfl) (pgs_cons (pg_name (i := 2) scLAdd.nd rfl (Or.inl rfl)) (pgs_cons (pg_name (i := 3) scLAdd.nd rfl (Or.inl rfl)) pgs_nil)))
      (pss_one (ps_dput hu (pv 1) (pv 2) (pe_op op_add (pe_dget2 hu (pv 1) (pv 2) pe_int ⟨rfl, rfl, rfl, rfl⟩) (pv 3)) rfl)))
    (pss_one (ps_ret (pe_callTy call_tuple_of (by rfl) T.tuple (by decide +kernel) (pa_cons (pe_lc (own := [("e", 2)]) (g := gName 2) (tt := tYes) rfl scLAdd.nd (pi_list (pe_callB (call_sortedDI rfl) (by rfl) T.sorted (by decide +kernel) (pa_cons (pv 1) pa_nil)))
      (blkOk_by (N := ["pairs", "found", "e", "c"]) (sc := defScope sLAdd) (by decide +kernel)) (fun _ _ _ _ _ => pg_name (i := 2) scLAdd.nd rfl (Or.inl rfl)) (fun _ _ _ _ _ => pts_nil)
      (fun _ _ _ _ _ => pe_tup (pa_cons (pv 2) (pa_cons (pe_dget hu (pv 1) (pv 2) (fun _ _ => rfl)) pa_nil)))) pa_nil))))), ?_⟩
  intro dd hd
  have lt := PT.len ht
  rcases ha with ha | ha
  · have nad : a ≠ dd := ne_of_none ha hd
    refine ⟨_, rfl, .inl ⟨a, _, rfl, SqL.of ((upd_ne nad).trans ha), for_list (K := K) (xs := ts) (fun i σ H' => ∃ v w, σ = [some (.ref a), some (.ref dd), v, w] ∧ H' = upd H dd (.dK (dI (accP (ps.take i))))) ⟨_, _, rfl, rfl⟩
      (fun i σ H' _ ⟨_, _, _, e⟩ => by rw [e]; exact SqL.of ((upd_ne nad).trans ha)) ?_ ?_⟩⟩
    · rintro i x σ H' hx ⟨v, w, rfl, rfl⟩
      obtain ⟨t, y, rfl, hy, hyt⟩ := PT.get ht hx
      refine ⟨t, _, rfl, SqT.of ((upd_ne (ne_of_none hyt hd)).trans hyt), rfl, _, _, rfl, _, _, rfl, rfl, ?_⟩
      have len : (accP (ps.take i)).length ≤ 64 := Nat.le_trans (acc_len _) (Nat.le_trans (by rw [List.length_take]; omega) (Nat.le_of_lt hl))
      have g := DGet.k (k := Sum.inl y.1) (upd_same (H := H) (a := dd) (o := .dK (dI (accP (ps.take i)))))
      rw [valV_dI] at g
      refine ⟨_, rfl, dd, rfl, .inl ⟨_, .inl upd_same⟩, _, rfl, _, g, ?_⟩
      have eo : ((getK (accP (ps.take i)) y.1).map V.int).getD (V.int 0) = V.int ((getK (accP (ps.take i)) y.1).getD 0) := by
        cases getK (accP (ps.take i)) y.1 <;> rfl
      rw [eo]
      refine ⟨_, rfl, _, _, rfl, rfl, ?_⟩
      refine ⟨_, rfl, _, rfl, dd, _, rfl, DPut.k (k := Sum.inl y.1) upd_same (sl_lt (by unfold dI; rw [List.length_map]; omega)), ?_⟩
      refine ⟨_, _, rfl, ?_⟩
      rw [upd_upd, putK_dI, ← addK_set (acc_nodup _), List.take_add_one, hy]
      show _ = upd H dd (.dK (dI (accP (ps.take i ++ [y]))))
      rw [acc_snoc]
    · rintro σ H' ⟨v0, w0, rfl, rfl⟩
      rw [List.take_of_length_le (Nat.le_of_eq lt.symm)]
      have nd := acc_nodup ps
      have ld : (accP ps).length < 64 := Nat.lt_of_le_of_lt (acc_len ps) hl
      generalize hacc : accP ps = d at nd ld
      have hdd : upd H dd (.dK (dI d)) dd = some (.dK (dI d)) := upd_same
      have ks : (dI d).map (·.1) = (d.map (·.1)).map Sum.inl := by
        unfold dI
        rw [List.map_map, List.map_map]
        rfl
      refine ⟨_, rfl, _, _, d.map (·.1), rfl, .inl hdd, ks, by rw [List.length_map]; exact ld, fun ys v hp hs hv => ?_⟩
      have nod : ys.Nodup := hp.nodup_iff.mpr nd
      have av := ne_of_none hdd hv
      have keys : ∀ e ∈ ys, getK d e = some ((getK d e).getD 0) := fun e he => by
        cases z : getK d e with
        | none => exact absurd (hp.mem_iff.mp he) (getK_none z)
        | some _ => rfl
      refine ⟨v, rfl, ⟨_, SqL.of upd_same⟩, fun D hD => lc_list (K := K) (xs := ys.map V.int) (fun i H1 => ∃ ts, H1 D = some (.lst ts) ∧ PT H1 ts ((ys.take i).map fun e => (e, (getK d e).getD 0)) ∧ ∀ b o, upd (upd H dd (.dK (dI d))) v (.lst (ys.map V.int)) b = some o → H1 b = some o)
        ⟨[], upd_same, .nil, same_new hD _⟩ (fun i H1 _ ⟨_, _, _, old⟩ => SqL.of (old _ _ upd_same)) ?_ ?_⟩
      · rintro i x H1 hx ⟨ts, e1, e2, old⟩
        have hi : i < ys.length := by
          have := (List.getElem?_eq_some_iff.mp hx).1
          rwa [List.length_map] at this
        have hy : ys[i]? = some ys[i] := List.getElem?_eq_getElem hi
        rw [List.getElem?_map, hy] at hx
        obtain rfl : V.int ys[i] = x := Option.some.inj hx
        generalize ys[i] = e at hy
        refine ⟨rfl, ?_⟩
        dsimp only [tYes]
        refine iteT ?_
        have g := DGet.k (k := Sum.inl e) (old _ _ ((upd_ne av).trans hdd))
        rw [valV_dI, keys e (List.mem_of_getElem? hy)] at g
        refine ⟨_, rfl, _, rfl, _, rfl, _, _, rfl, g, ?_⟩
        refine ⟨by show 2 ≤ sizeLine; decide, fun w hw => ?_⟩
        have nD : D ≠ w := ne_of_none e1 hw
        have lts := PT.len e2
        rw [List.length_map, List.length_take] at lts
        have hlen := hp.length_eq
        rw [List.length_map] at hlen
        refine ⟨ts, (upd_ne nD).trans e1, sl_lt (by have := ld; omega), ts ++ [.ref w], upd_same, ?_, fun b o hb => ?_⟩
        · rw [List.take_add_one, hy, List.map_append]
          refine PT.app (Paired.mapP e2 fun v z ⟨t, h1, h2⟩ => ⟨t, h1, ?_⟩) (.cons ⟨w, rfl, by rw [upd_ne nD.symm, upd_same]⟩ .nil)
          rw [upd_ne (ne_of h2 e1 fun z => nomatch z)]
          exact same_new hw _ _ _ h2
        · rw [upd_ne (ne_of_none hb hD)]
          exact same_new hw _ _ _ (old _ _ hb)
      · rintro H1 ⟨ts, e1, e2, old⟩
        rw [List.length_map, List.take_of_length_le (Nat.le_refl _)] at e2
        refine ⟨D, ts, rfl, .inl ⟨SqL.of e1, fun b hb => ?_⟩⟩
        have asc : Asc (ys.map fun e => (e, (getK d e).getD 0)) := List.pairwise_map.mpr ((hs.and nod).imp fun q => by
          obtain ⟨q1, q2⟩ := q
          omega)
        have perm : (ys.map fun e => (e, (getK d e).getD 0)).Perm d := by
          have e0 : (d.map (·.1)).map (fun e => (e, (getK d e).getD 0)) = d := by
            rw [List.map_map]
            conv => rhs; rw [← List.map_id d]
            refine List.map_congr_left fun x hx => ?_
            show (x.1, (getK d x.1).getD 0) = x
            cases z : getK d x.1 with
            | none => exact absurd (List.mem_map.mpr ⟨x, hx, rfl⟩) (getK_none z)
            | some c => rw [show x = (x.1, x.2) from rfl, nodup_eq nd (getK_some z) hx]; rfl
          have := hp.map fun e => (e, (getK d e).getD 0)
          rw [e0] at this
          exact this
        have sF : Same (upd H dd (.dK (dI d))) (upd H1 b (.tup ts)) := fun c o hc => same_new hb _ _ _ (old _ _ (same_new hv _ _ _ hc))
        have pF : PolyAt (upd H1 b (.tup ts)) b (ys.map fun e => (e, (getK d e).getD 0)) := ⟨ts, upd_same, PT.sm (Same.sm (same_new hb _)) e2⟩
        have sH : Same H (upd H1 b (.tup ts)) := fun c o hc => sF _ _ (same_new hd _ _ _ hc)
        exact q _ b _ sH pF ⟨by rw [hacc]; exact perm, asc⟩
  · have nad : a ≠ dd := ne_of_none ha hd
    refine ⟨_, rfl, .inr ⟨a, _, rfl, SqT.of ((upd_ne nad).trans ha), for_tup (K := K) (xs := ts) (fun i σ H' => ∃ v w, σ = [some (.ref a), some (.ref dd), v, w] ∧ H' = upd H dd (.dK (dI (accP (ps.take i))))) ⟨_, _, rfl, rfl⟩
      (fun i σ H' _ ⟨_, _, _, e⟩ => by rw [e]; exact SqT.of ((upd_ne nad).trans ha)) ?_ ?_⟩⟩
    · rintro i x σ H' hx ⟨v, w, rfl, rfl⟩
      obtain ⟨t, y, rfl, hy, hyt⟩ := PT.get ht hx
      refine ⟨t, _, rfl, SqT.of ((upd_ne (ne_of_none hyt hd)).trans hyt), rfl, _, _, rfl, _, _, rfl, rfl, ?_⟩
      have len : (accP (ps.take i)).length ≤ 64 := Nat.le_trans (acc_len _) (Nat.le_trans (by rw [List.length_take]; omega) (Nat.le_of_lt hl))
      have g := DGet.k (k := Sum.inl y.1) (upd_same (H := H) (a := dd) (o := .dK (dI (accP (ps.take i)))))
      rw [valV_dI] at g
      refine ⟨_, rfl, dd, rfl, .inl ⟨_, .inl upd_same⟩, _, rfl, _, g, ?_⟩
      have eo : ((getK (accP (ps.take i)) y.1).map V.int).getD (V.int 0) = V.int ((getK (accP (ps.take i)) y.1).getD 0) := by
        cases getK (accP (ps.take i)) y.1 <;> rfl
      rw [eo]
      refine ⟨_, rfl, _, _, rfl, rfl, ?_⟩
      refine ⟨_, rfl, _, rfl, dd, _, rfl, DPut.k (k := Sum.inl y.1) upd_same (sl_lt (by unfold dI; rw [List.length_map]; omega)), ?_⟩
      refine ⟨_, _, rfl, ?_⟩
      rw [upd_upd, putK_dI, ← addK_set (acc_nodup _), List.take_add_one, hy]
      show _ = upd H dd (.dK (dI (accP (ps.take i ++ [y]))))
      rw [acc_snoc]
    · rintro σ H' ⟨v0, w0, rfl, rfl⟩
      rw [List.take_of_length_le (Nat.le_of_eq lt.symm)]
      have nd := acc_nodup ps
      have ld : (accP ps).length < 64 := Nat.lt_of_le_of_lt (acc_len ps) hl
      generalize hacc : accP ps = d at nd ld
      have hdd : upd H dd (.dK (dI d)) dd = some (.dK (dI d)) := upd_same
      have ks : (dI d).map (·.1) = (d.map (·.1)).map Sum.inl := by
        unfold dI
        rw [List.map_map, List.map_map]
        rfl
      refine ⟨_, rfl, _, _, d.map (·.1), rfl, .inl hdd, ks, by rw [List.length_map]; exact ld, fun ys v hp hs hv => ?_⟩
      have nod : ys.Nodup := hp.nodup_iff.mpr nd
      have av := ne_of_none hdd hv
      have keys : ∀ e ∈ ys, getK d e = some ((getK d e).getD 0) := fun e he => by
        cases z : getK d e with
        | none => exact absurd (hp.mem_iff.mp he) (getK_none z)
        | some _ => rfl
      refine ⟨v, rfl, ⟨_, SqL.of upd_same⟩, fun D hD => lc_list (K := K) (xs := ys.map V.int) (fun i H1 => ∃ ts, H1 D = some (.lst ts) ∧ PT H1 ts ((ys.take i).map fun e => (e, (getK d e).getD 0)) ∧ ∀ b o, upd (upd H dd (.dK (dI d))) v (.lst (ys.map V.int)) b = some o → H1 b = some o)
        ⟨[], upd_same, .nil, same_new hD _⟩ (fun i H1 _ ⟨_, _, _, old⟩ => SqL.of (old _ _ upd_same)) ?_ ?_⟩
      · rintro i x H1 hx ⟨ts, e1, e2, old⟩
        have hi : i < ys.length := by
          have := (List.getElem?_eq_some_iff.mp hx).1
          rwa [List.length_map] at this
        have hy : ys[i]? = some ys[i] := List.getElem?_eq_getElem hi
        rw [List.getElem?_map, hy] at hx
        obtain rfl : V.int ys[i] = x := Option.some.inj hx
        generalize ys[i] = e at hy
        refine ⟨rfl, ?_⟩
        dsimp only [tYes]
        refine iteT ?_
        have g := DGet.k (k := Sum.inl e) (old _ _ ((upd_ne av).trans hdd))
        rw [valV_dI, keys e (List.mem_of_getElem? hy)] at g
        refine ⟨_, rfl, _, rfl, _, rfl, _, _, rfl, g, ?_⟩
        refine ⟨by show 2 ≤ sizeLine; decide, fun w hw => ?_⟩
        have nD : D ≠ w := ne_of_none e1 hw
        have lts := PT.len e2
        rw [List.length_map, List.length_take] at lts
        have hlen := hp.length_eq
        rw [List.length_map] at hlen
        refine ⟨ts, (upd_ne nD).trans e1, sl_lt (by have := ld; omega), ts ++ [.ref w], upd_same, ?_, fun b o hb => ?_⟩
        · rw [List.take_add_one, hy, List.map_append]
          refine PT.app (Paired.mapP e2 fun v z ⟨t, h1, h2⟩ => ⟨t, h1, ?_⟩) (.cons ⟨w, rfl, by rw [upd_ne nD.symm, upd_same]⟩ .nil)
          rw [upd_ne (ne_of h2 e1 fun z => nomatch z)]
          exact same_new hw _ _ _ h2
        · rw [upd_ne (ne_of_none hb hD)]
          exact same_new hw _ _ _ (old _ _ hb)
      · rintro H1 ⟨ts, e1, e2, old⟩
        rw [List.length_map, List.take_of_length_le (Nat.le_refl _)] at e2
        refine ⟨D, ts, rfl, .inl ⟨SqL.of e1, fun b hb => ?_⟩⟩
        have asc : Asc (ys.map fun e => (e, (getK d e).getD 0)) := List.pairwise_map.mpr ((hs.and nod).imp fun q => by
          obtain ⟨q1, q2⟩ := q
          omega)
        have perm : (ys.map fun e => (e, (getK d e).getD 0)).Perm d := by
          have e0 : (d.map (·.1)).map (fun e => (e, (getK d e).getD 0)) = d := by
            rw [List.map_map]
            conv => rhs; rw [← List.map_id d]
            refine List.map_congr_left fun x hx => ?_
            show (x.1, (getK d x.1).getD 0) = x
            cases z : getK d x.1 with
            | none => exact absurd (List.mem_map.mpr ⟨x, hx, rfl⟩) (getK_none z)
            | some c => rw [show x = (x.1, x.2) from rfl, nodup_eq nd (getK_some z) hx]; rfl
          have := hp.map fun e => (e, (getK d e).getD 0)
          rw [e0] at this
          exact this
        have sF : Same (upd H dd (.dK (dI d))) (upd H1 b (.tup ts)) := fun c o hc => same_new hb _ _ _ (old _ _ (same_new hv _ _ _ hc))
        have pF : PolyAt (upd H1 b (.tup ts)) b (ys.map fun e => (e, (getK d e).getD 0)) := ⟨ts, upd_same, PT.sm (Same.sm (same_new hb _)) e2⟩
        have sH : Same H (upd H1 b (.tup ts)) := fun c o hc => sF _ _ (same_new hd _ _ _ hc)
        exact q _ b _ sH pF ⟨by rw [hacc]; exact perm, asc⟩
theorem scLProd : FnScope ["one", "other", "found", "e", "c", "f", "d"] ["one", "other"] (defScope sLProd) := ⟨rfl, rfl, rfl, by decide +kernel, rfl, by decide +kernel, by decide +kernel⟩
theorem ok_lProd (F : Fun K "_law_product" "_law_product" sLProd f fd) (T : Blt2 mg) (C : Call1 P w K mg base "_law_added" 1 ["pairs"] (spLAdd K)) : FnOk P w K mg base CX0 2 f fd ["one", "other"] spLProd := by
  obtain ⟨g, gd, G, bG, kG, mG⟩ := C.ex
  refine F.ok scLProd (fun vs H Q E h => ?_) (fun cdv A outer s H vs Q E hr h => ?_)
  · obtain ⟨a, b, p, r, rfl, _⟩ := h
    rfl
  obtain ⟨a, b, p, r, rfl, ⟨ts, ha, ht⟩, ⟨us, hb, hu⟩, gp, gr, hl, hlr, q⟩ := h
  refine ⟨_, pss_cons (ps_set (i := 2) scLProd.nd rfl (Or.inl rfl) (pe_lst pa_nil))
    (pss_cons (ps_for PassesOwn.never rfl (pi_tup (pv 0)) (pg_tup (by rfl) (pgs_cons (pg_name (i := 3) scLProd.nd rfl (Or.inr rfl)) (pgs_cons (pg_name (i := 4) scLProd.nd rfl (Or.inr rfl)) pgs_nil)))
      (pss_one (ps_expr (pe_bm PySem.F.plainAttrs_list PySem.F.slot_list_extend PySem.F.type_list_extend mt_extend (pv 2) (pa_cons (pe_lc (own := [("f", 5), ("d", 6)]) (g := gTup K 2 (gCons (gName 5) (gCons (gName 6) gNil))) (tt := tYes) rfl scLProd.nd (pi_tup (pv 1))
        (blkOk_by (N := ["one", "other", "found", "e", "c", "f", "d"]) (sc := defScope sLProd) (by decide +kernel)) (fun _ _ _ _ _ => pg_tup (by rfl) (pgs_cons (pg_name (i := 5) scLProd.nd rfl (Or.inl rfl)) (pgs_cons (pg_name (i := 6) scLProd.nd rfl (Or.inl rfl)) pgs_nil))) (fun _ _ _ _ _ => pts_nil)
        (fun _ _ _ _ _ => pe_tup (pa_cons (pe_op op_add (pv 3) (pv 5)) (pa_cons (pe_op op_mulW (pv 4) (pv 6)) pa_nil)))) pa_nil)))))
    (pss_one (ps_ret (pe_call G hr rfl mG kG bG .nil pass0 (pa_cons (pv 2) pa_nil))))), ?_⟩
  have lt := PT.len ht
  have lu := PT.len hu
  have bits : ∀ {p : List IQ}, Good 1000 (10 ^ 12) p → ∀ x ∈ p, x.2.natAbs < 2 ^ 41 := fun {p} g x hx => by
    obtain ⟨_, _, h1, h2⟩ := g.all x hx
    have : (10 : Int) ^ 12 = 1000000000000 := by decide
    omega
  refine ⟨Nat.zero_le _, fun l hl0 => ?_⟩
  have nal : a ≠ l := ne_of_none ha hl0
  have nbl : b ≠ l := ne_of_none hb hl0
  refine ⟨_, rfl, a, rfl, ⟨_, SqT.of ((upd_ne nal).trans ha)⟩, for_tup (K := K) (xs := ts) (fun i σ H' => (∃ u1 u2, σ = [some (.ref a), some (.ref b), some (.ref l), u1, u2, none, none]) ∧ ∃ vs, H' l = some (.lst vs) ∧ PT H' vs (mulP (p.take i) r) ∧ ∀ b o, H b = some o → H' b = some o)
    ⟨⟨_, _, rfl⟩, [], upd_same, .nil, same_new hl0 _⟩ (fun i σ H' _ ⟨_, _, _, _, o⟩ => SqT.of (o _ _ ha)) ?_ ?_⟩
  · rintro i v σ H' hv ⟨⟨u1, u2, rfl⟩, vs, e1, e2, old⟩
    obtain ⟨t, x, rfl, hx, hxt⟩ := PT.get ht hv
    have hxm := List.mem_of_getElem? hx
    refine ⟨t, _, rfl, SqT.of (old _ _ hxt), rfl, _, _, rfl, _, _, rfl, rfl, ?_⟩
    refine ⟨_, rfl, .inl ⟨rfl, _, SqL.of e1⟩, ?_⟩
    refine ⟨_, rfl, b, rfl, ⟨_, SqT.of (old _ _ hb)⟩, fun D hD => lc_tup (K := K) (xs := us) (fun j H1 => ∃ ws, H1 D = some (.lst ws) ∧ PT H1 ws ((r.take j).map fun y => (x.1 + y.1, x.2 * y.2)) ∧ ∀ b o, H' b = some o → H1 b = some o) ⟨[], upd_same, .nil, same_new hD _⟩
      (fun j H1 _ ⟨_, _, _, o⟩ => SqT.of (o _ _ (old _ _ hb))) ?_ ?_⟩
    · rintro j v2 H1 hv2 ⟨ws, w1, w2, wo⟩
      obtain ⟨t2, z, rfl, hz, hzt⟩ := PT.get hu hv2
      have hzm := List.mem_of_getElem? hz
      refine ⟨t2, _, rfl, SqT.of (wo _ _ (old _ _ hzt)), rfl, _, _, rfl, _, _, rfl, rfl, ?_⟩
      refine ⟨rfl, ?_⟩
      dsimp only [tYes]
      refine iteT ?_
      refine ⟨_, rfl, _, rfl, _, _, rfl, rfl, ?_⟩
      refine ⟨_, rfl, _, rfl, _, _, rfl, rfl, wide_mul (bits gp x hxm) (bits gr z hzm) (by decide) (by decide) (by decide), ?_⟩
      refine ⟨by show 2 ≤ sizeLine; decide, fun w hw => ?_⟩
      have nD : D ≠ w := ne_of_none w1 hw
      have lws := PT.len w2
      rw [List.length_map, List.length_take] at lws
      refine ⟨ws, (upd_ne nD).trans w1, sl_lt (by omega), ws ++ [.ref w], upd_same, ?_, fun c o hc => ?_⟩
      · rw [List.take_add_one, hz, List.map_append]
        refine PT.app (Paired.mapP w2 fun v z ⟨t, h1, h2⟩ => ⟨t, h1, ?_⟩) (.cons ⟨w, rfl, by rw [upd_ne nD.symm, upd_same]⟩ .nil)
        rw [upd_ne (ne_of h2 w1 fun z => nomatch z)]
        exact same_new hw _ _ _ h2
      · rw [upd_ne (ne_of_none hc hD)]
        exact same_new hw _ _ _ (wo _ _ hc)
    · rintro H1 ⟨ws, w1, w2, wo⟩
      rw [List.take_of_length_le (Nat.le_of_eq lu.symm)] at w2
      have lvs := PT.len e2
      have lws := PT.len w2
      rw [mulP_len, List.length_take] at lvs
      rw [List.length_map] at lws
      have nlD : l ≠ D := ne_of_none e1 hD
      refine ⟨l, D, vs, ws, rfl, rfl, wo _ _ e1, w1, ?_, ?_⟩
      · have : min i p.length * r.length ≤ p.length * r.length := Nat.mul_le_mul_right _ (by omega)
        exact Nat.le_of_lt (sl_lt (by omega))
      refine ⟨⟨_, _, rfl⟩, vs ++ ws, upd_same, ?_, fun c o hc => ?_⟩
      · rw [List.take_add_one, hx]
        show PT _ _ (mulP (p.take i ++ [x]) r)
        rw [mulP_snoc]
        refine PT.app (Paired.mapP e2 fun v z ⟨t, h1, h2⟩ => ⟨t, h1, ?_⟩) (Paired.mapP w2 fun v z ⟨t, h1, h2⟩ => ⟨t, h1, ?_⟩)
        · rw [upd_ne (ne_of h2 e1 fun z => nomatch z)]
          exact wo _ _ h2
        · rw [upd_ne (ne_of h2 (wo _ _ e1) fun z => nomatch z)]
          exact h2
      · rw [upd_ne (ne_of_none hc hl0)]
        exact wo _ _ (old _ _ hc)
  · rintro σ H' ⟨⟨u1, u2, rfl⟩, vs, e1, e2, old⟩
    rw [List.take_of_length_le (Nat.le_of_eq lt.symm)] at e2
    refine ⟨_, rfl, l, vs, mulP p r, rfl, .inl e1, e2, by rw [mulP_len]; exact hl, fun H2 x ys s2 px cx => ?_⟩
    exact q H2 x ys (fun c o hc => s2 _ _ (old _ _ hc)) px cx
end
end Zk

set_option maxHeartbeats 4000000
/-! R0: a tuple turned round, t[::-1]. -/
namespace Zk
open PySem PySem.Spec PyProof.Rows L2 HT
section
variable {prog : Program} {w : World} {A : Around} {E : Value → Shared → Prop} {s : Shared}
theorem rev_places (n : Nat) : Builtin.Slice.slicePlaces ((n : Int) - 1) (-1) (-1) = n := by
  unfold Builtin.Slice.slicePlaces
  have h1 : ¬ ((-1 : Int) > 0) := by omega
  simp only [h1, if_false]
  have e : ((n : Int) - 1 - -1 - 1) / - -1 = (n : Int) - 1 := by
    rw [show (- -1 : Int) = 1 by decide, Int.ediv_one]
    omega
  split <;> omega
theorem rev_pick (xs : Array Value) : ((List.range xs.size).filterMap fun (m : Nat) => xs[(((xs.size : Int) - 1) + (m : Int) * (-1)).toNat]?).toArray = xs.toList.reverse.toArray := by
  congr 1
  refine List.ext_getElem? fun i => ?_
  have e : (List.range xs.size).filterMap (fun (m : Nat) => xs[(((xs.size : Int) - 1) + (m : Int) * (-1)).toNat]?) = (List.range xs.size).map fun m => xs.getD (xs.size - 1 - m) .none := by
    have key : ∀ l : List Nat, (∀ m ∈ l, m < xs.size) → l.filterMap (fun (m : Nat) => xs[(((xs.size : Int) - 1) + (m : Int) * (-1)).toNat]?) = l.map fun m => xs.getD (xs.size - 1 - m) .none := by
      intro l
      induction l with
      | nil => intro _; rfl
      | cons m r ih =>
        intro h
        have hm := h m List.mem_cons_self
        rw [List.filterMap_cons, List.map_cons, ih fun y hy => h y (List.mem_cons_of_mem _ hy)]
        have : (((xs.size : Int) - 1) + (m : Int) * (-1)).toNat = xs.size - 1 - m := by omega
        rw [this]
        simp [Array.getD, show xs.size - 1 - m < xs.size by omega]
    exact key _ fun m hm => List.mem_range.mp hm
  rw [e]
  by_cases h : i < xs.size
  · rw [List.getElem?_map, List.getElem?_range h, List.getElem?_reverse (by simpa using h)]
    simp [Array.getD, show xs.size - 1 - i < xs.size by omega]
  · rw [List.getElem?_eq_none (by simpa using h), List.getElem?_eq_none (by simpa using h)]
theorem sliceApplied_rev {sl : Addr} {vl vu vs : Value} {n : Nat} {Q : Int × Int × Nat → Shared → Prop} (hs : s.heap.IsSliceOf sl vl vu vs) (pl : IsPart vl none) (pu : IsPart vu none) (ps : IsPart vs (some (-1)))
    (h : Q ((n : Int) - 1, -1, n) s) : wpAny (model prog w) A (Builtin.Slice.sliceApplied (.ref sl) (pure (n : Int))) Q E s := by
  obtain ⟨os, hos, hcs, hds⟩ := id hs
  unfold Builtin.Slice.sliceApplied Builtin.Slice.sliceFields
  refine wpAny_bind (wpAny_bind (wpAny_field hos hds (x := vl) rfl (wpAny_bind (wpAny_field hos hds (x := vu) rfl (wpAny_bind (wpAny_field hos hds (x := vs) rfl (wpAny_pure ?_)))))))
  refine wpAny_bind (slicePart_ ps ?_)
  show wpAny _ _ (if ((-1 : Int) == 0) = true then _ else _) _ _ s
  rw [if_neg (by decide)]
  refine wpAny_bind (slicePart_ pl (wpAny_bind (slicePart_ pu (wpAny_bind (wpAny_pure ?_)))))
  show wpAny _ _ (match Builtin.Slice.sliceAdjust none none (-1) (n : Int) with | (lo, hi) => pure (lo, (-1 : Int), Builtin.Slice.slicePlaces lo hi (-1))) _ _ s
  show wpAny _ _ (pure ((n : Int) - 1, (-1 : Int), Builtin.Slice.slicePlaces ((n : Int) - 1) (-1) (-1))) _ _ s
  rw [rev_places]
  exact wpAny_pure h
theorem getItem_tuple_rev {t sl : Addr} {items : Array Value} {vl vu vs : Value} {Q : Value → Shared → Prop} (ht : IsTup s.heap t items) (hs : s.heap.IsSliceOf sl vl vu vs) (pl : IsPart vl none) (pu : IsPart vu none) (ps : IsPart vs (some (-1)))
    (h : Q (.ref s.heap.objs.size) { s with heap := s.heap.push { cls := .type "tuple", data := .seq items.toList.reverse.toArray } })
    (hsz : items.size ≤ sizeLine) : wpAny (model prog w) A (getItem (.ref t) (.ref sl)) Q E s := by
  have htake : sizeOk (.seq items.toList.reverse.toArray) := by
    show items.toList.reverse.toArray.size ≤ sizeLine
    rw [List.size_toArray, List.length_reverse, Array.length_toList]
    exact hsz
  obtain ⟨os, hos, hcs, hds⟩ := id hs
  have hTs : s.TypeIs (.ref sl) "slice" := ⟨os, hos, hcs⟩
  unfold getItem
  try with_reducible refine wpAny_holding ?_
  first | refine wpAny_bind (wpAny_pure ?_) | skip
  refine wpAny_bind (wpAny_sequenceKey ht.typeIs (by decide) ?_)
  refine wpAny_bind (wpAny_callSpecial?_slot (name := Str.ofString "__getitem__") ht.typeIs PyProof.Rows.slot_tuple_getitem
    (wpAny_call_entry PyProof.Rows.slot_tuple_getitem ht.typeIs entry_tuple_getitem ?_ (args_tuple_getitem _ _)))
  show wpAny _ _ (Builtin.Tuple.tupleItemsOf (.ref t) >>= _) _ _ s
  refine wpAny_bind (tupleItemsOf_ ht ?_)
  refine wpAny_bind (wpAny_typeOf hTs ?_)
  rw [if_pos (by decide)]
  refine wpAny_bind (sliceApplied_rev hs pl pu ps ?_)
  have hno : ¬ ((((items.size : Int) - 1) == 0 && (-1 : Int) == 1 && items.size == items.size) = true) := by
    rw [show ((-1 : Int) == 1) = false by decide]
    simp
  show wpAny _ _ (if (((items.size : Int) - 1) == 0 && (-1 : Int) == 1 && items.size == items.size) = true then _ else _) _ _ s
  rw [if_neg hno, rev_pick]
  first
    | exact wpAny_bind (m := Builtin.Tuple.tupleExact _) (wpAny_newObj_type (wpAny_pure ⟨_, rfl, wpAny_pure h⟩) htake)
    | exact wpAny_bind (m := Builtin.Tuple.tupleExact _) (wpAny_newObj_type (wpAny_bind (wpAny_pure (wpAny_pure ⟨_, rfl, wpAny_pure h⟩))) htake)
    | exact wpAny_bind (wpAny_bind (m := Builtin.Tuple.tupleExact _) (wpAny_newObj_type (wpAny_pure (wpAny_pure ⟨_, rfl, wpAny_pure h⟩)) htake))
    | exact wpAny_bind (wpAny_bind (m := Builtin.Tuple.tupleExact _) (wpAny_newObj_type (wpAny_pure ⟨_, rfl, wpAny_pure h⟩) htake))
end
section
variable {X : Cx}
def tRevT (K : PySem.W.Frag) (te : TE) : TE := fun σ H Q => te σ H fun x H1 => ∃ a xs, x = .ref a ∧ SqT K H1 a xs ∧ ∀ p, H1 p = none → Q (.ref p) (upd H1 p (.tup xs.reverse))
theorem pe_revT {e : Expr} {te : TE} {k : Nat} {p1 p2 p3 pos : Pos} (he : PE X e te) : PE X (.Subscript e (.Slice none none (some (.UnaryOp .USub (.Constant (.int 1) k p1) p2)) p3) pos) (tRevT X.K te) := by
  refine ⟨fun pins s σ H Q I h => ?_⟩
  refine Subscript_ (thn (he.run pins s σ H _ I h) fun v s1 ⟨x, H1, I1, r1, q1⟩ => ?_)
  obtain ⟨a, xs, ex, hx, q⟩ := q1
  subst ex
  cases r1
  have hst : PO X (some (.UnaryOp .USub (.Constant (.int 1) k p1) p2)) (tPart (tUn (rU fun i => .int (-i)) (tC (.int 1)))) := po_some (pe_un un_neg pe_int)
  refine wpAny_Slice (thn (po_none.run pins s1 σ H1 (fun o H2 => o = none ∧ H2 = H1) I1 ⟨rfl, rfl⟩) fun vl s2 ⟨l, H2, I2, pl, el, e2⟩ => ?_)
  subst el e2
  refine thn (po_none.run pins s2 σ H2 (fun o H3 => o = none ∧ H3 = H2) I2 ⟨rfl, rfl⟩) fun vu s3 ⟨u, H3, I3, pu, eu, e3⟩ => ?_
  subst eu e3
  refine thn (hst.run pins s3 σ H3 (fun o H4 => o = some (-1) ∧ H4 = H3) I3 ⟨1, rfl, -1, rfl, rfl, rfl⟩) fun vs s4 ⟨o, H4, I4, ps, eo, e4⟩ => ?_
  subst eo e4
  have I5 : Inv X pins σ H4 { s4 with heap := s4.heap.push { cls := .type "slice", data := .fields #[vl, vu, vs] } } := I4.kept (t' := s4.toks) fun b ob q => Heap.get?_push_of_some _ q
  obtain ⟨its, r, ht, hz⟩ := I5.tuple hx
  have hlen := r.length
  show wpAny (model X.prog X.w) X.A (subscriptTail e (.Slice none none (some (.UnaryOp .USub (.Constant (.int 1) k p1) p2)) p3) (.ref a) (.ref s4.heap.objs.size)) (EP X pins σ Q) X.xe { s4 with heap := s4.heap.push { cls := .type "slice", data := .fields #[vl, vu, vs] } }
  refine tail_any (ops := [.ref a, .ref s4.heap.objs.size]) ht.typeIs (PyProof.Rows.slot_tuple_getitem.lookup) ?_ (by with_unfolding_all rfl)
  refine getItem_tuple_rev ht (Heap.IsSliceOf.new _ vl vu vs) pl pu ps ?_ (by rw [List.size_toArray]; omega)
  refine ⟨.ref _, _, I5.laid (t' := s4.toks) (o := .tup xs.reverse) (fun b ob q => Heap.get?_push_of_some _ q) (Nat.le_refl _) ?_, rfl, q _ (I5.hok.fresh (Nat.le_refl _))⟩
  exact ⟨by rw [List.length_reverse]; exact hz, _, r.reverse, IsTup.new _ _⟩
end
end Zk

set_option maxHeartbeats 4000000
/-! Ka: a part exchanged; helpers of what is drawn. -/
namespace Zk
open PySem PySem.Spec PyProof.Rows L2 GxR
abbrev sInst : Stmt := top 24
/-- new things beside the deck, the deck itself as it was -/
theorem deck_same {H0 H H' : Hp} {dk lf : Addr} {B : Nat} (h : DeckAt H0 H dk lf B) (s : Same H H') : ∃ H0', Grow dk lf H0 H H0' H' ∧ DeckAt H0' H' dk lf B ∧ ∀ x, H x = none → H0' x = H' x := by
  obtain ⟨od, ed⟩ := h.at_d
  obtain ⟨ol, el⟩ := h.at_l
  refine ⟨fun x => if (H x).isNone then H' x else H0 x, ⟨fun b o e => ?_, fun b o _ _ e => s _ _ e, fun b o e => ?_⟩, h.move (fun b o e => ?_) ?_ ?_ ((s _ _ ed).trans ed.symm) ((s _ _ el).trans el.symm), fun x e => ?_⟩
  · show (if (H b).isNone then H' b else H0 b) = some o
    rw [h.same _ _ e]
    exact e
  · show (if (H b).isNone then H' b else H0 b) = H0 b
    rw [e]
    rfl
  · have e : (if (H b).isNone then H' b else H0 b) = some o := e
    cases z : H b with
    | none => rwa [z] at e
    | some u =>
      rw [z] at e
      have e : H0 b = some o := e
      have := h.same _ _ e
      rw [z] at this
      cases this
      exact s _ _ z
  · show (if (H dk).isNone then H' dk else H0 dk) = none
    rw [ed]
    exact h.off
  · show (if (H lf).isNone then H' lf else H0 lf) = none
    rw [el]
    exact h.offl
  · show (if (H x).isNone then H' x else H0 x) = H' x
    rw [e]
    rfl
/-- data that stands still -/
theorem DeckAt.sd {H0 H : Hp} {dk lf : Addr} {B : Nat} (h : DeckAt H0 H dk lf B) {v : V} {d : PyData} (s : Sd H0 v d) : Sd H v d := s.same h.same
theorem SdL.set {H : Hp} : ∀ {vs : List V} {ds : List PyData} {i : Nat} {v : V} {d : PyData}, SdL H vs ds → Sd H v d → SdL H (vs.set i v) (ds.set i d)
  | _, _, _, _, _, .nil, _ => .nil
  | _, _, 0, _, _, .cons h t, s => .cons s t
  | _, _, i + 1, _, _, .cons h t, s => .cons h (SdL.set t s)
theorem SdL.take {H : Hp} : ∀ {vs : List V} {ds : List PyData} (i : Nat), SdL H vs ds → SdL H (vs.take i) (ds.take i)
  | _, _, i, .nil => by rw [List.take_nil, List.take_nil]; exact .nil
  | _, _, 0, .cons h t => .nil
  | _, _, i + 1, .cons h t => .cons h (SdL.take i t)
theorem SdL.drop {H : Hp} : ∀ {vs : List V} {ds : List PyData} (i : Nat), SdL H vs ds → SdL H (vs.drop i) (ds.drop i)
  | _, _, i, .nil => by rw [List.drop_nil, List.drop_nil]; exact .nil
  | _, _, 0, .cons h t => .cons h t
  | _, _, i + 1, .cons h t => SdL.drop i t
theorem SdL.rev {H : Hp} : ∀ {vs : List V} {ds : List PyData}, SdL H vs ds → SdL H vs.reverse ds.reverse
  | _, _, .nil => .nil
  | _, _, .cons h t => by rw [List.reverse_cons, List.reverse_cons]; exact (SdL.rev t).app (.cons h .nil)
/-- _law_instead(some, at, item) -/
def spInst : Sp := fun vs H Q _ => ∃ (a : Addr) (xs : List V) (i : Nat) (x : V), vs = [.ref a, .int (i : Int), x] ∧ H a = some (.tup xs) ∧ i < xs.length ∧ xs.length ≤ 1000 ∧ ∀ H' b, Same H H' → H b = none → H' b = some (.tup (xs.set i x)) → Q (.ref b) H'
theorem set_cut {xs : List V} {i : Nat} {x : V} (h : i < xs.length) : xs.set i x = xs.take i ++ [x] ++ xs.drop (i + 1) := by
  rw [List.set_eq_take_append_cons_drop, if_pos h, List.append_assoc]
  rfl
section
variable {P : Program} {w : World} {K : PySem.W.Frag} {mg : Str → Option Value} {base : Heap} {f : Addr} {fd : FuncData}
theorem scInst : FnScope ["some", "at", "item"] ["some", "at", "item"] (defScope sInst) := ⟨rfl, rfl, rfl, by decide +kernel, rfl, by decide +kernel, by decide +kernel⟩
theorem ok_inst (F : Fun K "_law_instead" "_law_instead" sInst f fd) : FnOk P w K mg base CX0 1 f fd ["some", "at", "item"] spInst := by
  refine F.ok scInst (fun vs H Q E h => ?_) (fun cdv A outer s H vs Q E hr h => ?_)
  · obtain ⟨a, xs, i, x, rfl, _⟩ := h
    rfl
  obtain ⟨a, xs, i, x, rfl, ha, hi, hl, q⟩ := h
  refine ⟨_, pss_one (ps_ret (pe_op op_catA (pe_op op_catA (pe_slice sl_tupA (pv 0) po_none (po_some (pv 1))) (pe_tup (pa_cons (pv 2) pa_nil))) (pe_slice sl_tupA (pv 0) (po_some (pe_op op_add (pv 1) pe_int)) po_none))), ?_⟩
  have c1 : HT.sIx xs.length xs.length (some (i : Int)) = i := (HT.sIx_nat _ _ _).trans (by omega)
  have c2 : HT.sIx xs.length 0 (some ((i : Int) + 1)) = i + 1 := by
    rw [show (i : Int) + 1 = ((i + 1 : Nat) : Int) by omega]
    exact (HT.sIx_nat _ _ _).trans (by omega)
  have e1 : cutV xs none (some (i : Int)) = xs.take i := by
    unfold cutV
    rw [HT.sIx_none, c1]
    simp
  have e2 : cutV xs (some ((i : Int) + 1)) none = xs.drop (i + 1) := by
    unfold cutV
    rw [HT.sIx_none, c2]
    exact List.take_of_length_le (by rw [List.length_drop]; omega)
  refine ⟨_, rfl, _, rfl, (i : Int), rfl, a, xs, rfl, SqT.of ha, fun z => absurd z.2 (by rw [c1]; omega), fun _ p1 h1 => ?_⟩
  rw [e1]
  refine ⟨_, rfl, by show 1 ≤ sizeLine; decide, fun p2 h2 => ?_⟩
  have n12 : p1 ≠ p2 := ne_of_none upd_same h2
  refine ⟨p1, p2, xs.take i, [x], rfl, rfl, SqT.of ((upd_ne n12).trans upd_same), SqT.of upd_same, sl_small (by rw [List.length_take]; show _ + 1 ≤ _; omega), ?_⟩
  have s1 : Same H (upd H p1 (.tup (xs.take i))) := same_new h1 _
  have s2 := s1.trans (same_new h2 (.tup [x]))
  have f2 : H p2 = none := s1.free h2
  -- the left part stands at b: what comes of it and the rest
  have fin : ∀ H2 b, Same H H2 → H b = none → H2 b = some (.tup (xs.take i ++ [x])) → tSl (rSlA K) (tVar 0) (tPart (tOp (rI0 fun i j => V.int (i + j)) (tVar 1) (tC (V.int 1)))) tNoPart [some (.ref a), some (.int (i : Int)), some x] H2 fun y H3 => rCatA K (.ref b) y H3 Q := by
    intro H2 b sH fb hb
    refine ⟨_, rfl, _, rfl, _, _, rfl, rfl, _, rfl, a, xs, rfl, SqT.of (sH _ _ ha), fun z => absurd z.1 (by rw [c2]; omega), fun _ p3 h3 => ?_⟩
    rw [e2]
    have n3 : b ≠ p3 := ne_of_none hb h3
    have s3 := sH.trans (same_new h3 (.tup (xs.drop (i + 1))))
    refine ⟨b, p3, _, _, rfl, rfl, SqT.of ((upd_ne n3).trans hb), SqT.of upd_same, sl_small (by simp; omega), fun z => absurd z (by simp), fun _ z => ?_, fun _ _ p4 h4 => ?_⟩
    · refine q _ b s3 fb ?_
      rw [upd_ne n3, hb, set_cut hi, z, List.append_nil]
    · refine q _ p4 (s3.trans (same_new h4 _)) (s3.free h4) ?_
      rw [upd_same, set_cut hi]
  refine ⟨fun z => ?_, fun _ z => absurd z (by simp), fun _ _ p h => ?_⟩
  · exact fin _ p2 s2 f2 (by rw [upd_same, z]; rfl)
  · exact fin _ p (s2.trans (same_new h _)) (s2.free h) upd_same
end
end Zk

set_option maxHeartbeats 4000000
/-! Kb: _law_bent. -/
namespace Zk
open PySem PySem.Spec PyProof.Rows L2 GxR
abbrev sBent : Stmt := top 25
theorem ofString_small (s : String) : ∀ c ∈ (Str.ofString s).cps.toList, c < 16 ^ 8 := by
  have e : (Str.ofString s).cps.toList = s.toList.map Char.toNat := by
    rw [PySem.Str.ofString_eq_toList]
  rw [e]
  intro c hc
  obtain ⟨x, _, rfl⟩ := List.mem_map.mp hc
  have h := x.valid
  have : x.toNat < 0x110000 := by
    show x.val.toNat < 0x110000
    rcases h with h | ⟨_, h⟩
    · exact Nat.lt_trans h (by decide)
    · exact h
  omega
/-- numbers, and tuples of at most 12 of the level before -/
def Bs : Nat → PyData → Prop
  | 0, d => ∃ i : Int, d = .int i ∧ i.natAbs < 2 ^ 50
  | n + 1, d => ∃ ds, d = .tuple ds ∧ ds.length ≤ 10 ∧ ∀ e ∈ ds, Bs n e
def bl : Nat → Nat
  | 0 => 1921
  | n + 1 => 10 * (bl n + 2) + 2
def rb : Nat → Nat
  | 0 => 132000
  | n + 1 => 2 * bl (n + 1) + rb n + 132000
/-- what may come of a value of that level -/
def RF (n : Nat) (d : PyData) : Prop := Fine (n + 6) (rb n) d ∧ Lens d
theorem log_small {i : Int} (h : i.natAbs < 2 ^ 51) : i.natAbs.log2 < 1920 := by
  by_cases z : i.natAbs = 0
  · rw [z]; decide
  · exact Nat.lt_of_lt_of_le ((Nat.log2_lt z).mpr h) (by decide)
theorem bs_fine : ∀ {n : Nat} {d : PyData}, Bs n d → Fine n (bl n) d
  | 0, d, ⟨i, e, h⟩ => by
    subst e
    exact fine_int (log_small (by omega))
  | n + 1, d, ⟨ds, e, h, k⟩ => by
    subst e
    refine (fine_tup fun d hd => bs_fine (k d hd)).mono (Nat.le_refl _) ?_
    have : ds.length * (bl n + 2) ≤ 10 * (bl n + 2) := Nat.mul_le_mul_right _ h
    show _ ≤ 10 * (bl n + 2) + 2
    omega
theorem bl_pos (n : Nat) : 1921 ≤ bl n := by
  cases n with
  | zero => exact Nat.le_refl _
  | succ n => show _ ≤ 10 * (bl n + 2) + 2; have := bl_pos n; omega
theorem rb_pos (n : Nat) : 132000 ≤ rb n := by
  cases n with
  | zero => exact Nat.le_refl _
  | succ n => show _ ≤ 2 * bl (n + 1) + rb n + 132000; omega
theorem rb_bl (n : Nat) : 2 * bl n ≤ rb n := by
  cases n with
  | zero => decide
  | succ n => show _ ≤ 2 * bl (n + 1) + rb n + 132000; omega
theorem any_rf {n : Nat} {d : PyData} (h : AnyFine 2 d) : RF n d := by
  have : anyLen 2 = 130024 := by decide
  have := rb_pos n
  exact ⟨h.1.mono (by omega) (by omega), h.2⟩
theorem shownAll_set {d : PyData} {b c : Nat} : ∀ {ds : List PyData} {i : Nat}, (∀ e ∈ ds, e.shown.length ≤ b) → d.shown.length ≤ c → piled (PyData.shownAll (ds.set i d)) ≤ ds.length * (b + 2) + c + 2
  | [], _, _, _ => by simp [PyData.shownAll, piled_nil]
  | e :: r, 0, h, k => by
    have h2 := piled_le (ts := PyData.shownAll r) (n := b) fun t ht => by
      obtain ⟨d, hd, e⟩ := shownAll_mem ht
      exact e ▸ h d (List.mem_cons_of_mem _ hd)
    rw [shownAll_len] at h2
    simp only [List.set_cons_zero, PyData.shownAll, piled_cons, List.length_cons, Nat.succ_mul]
    omega
  | e :: r, i + 1, h, k => by
    have h1 := h e List.mem_cons_self
    have h2 := shownAll_set (ds := r) (i := i) (fun u hu => h u (List.mem_cons_of_mem _ hu)) k
    simp only [List.set_cons_succ, PyData.shownAll, piled_cons, List.length_cons, Nat.succ_mul]
    omega
theorem mem_set {ds : List PyData} {i : Nat} {d e : PyData} (h : e ∈ ds.set i d) : e ∈ ds ∨ e = d := List.mem_or_eq_of_mem_set h
theorem fine_set {a b c : Nat} {ds : List PyData} {i : Nat} {d : PyData} (h : ∀ e ∈ ds, Fine a b e) (k : Fine a c d) : Fine (a + 1) (ds.length * (b + 2) + c + 4) (.tuple (ds.set i d)) where
  able := by
    simp only [PyData.showable]
    refine showAll_of fun e he => ?_
    rcases mem_set he with he | rfl
    · exact (h e he).able
    · exact k.able
  deep := by
    have := depthAll_of (n := a) (ds := ds.set i d) fun e he => by
      rcases mem_set he with he | rfl
      · exact (h e he).deep
      · exact k.deep
    simp only [PyData.depth]
    omega
  long := by
    have h1 := tuple_len (PyData.shownAll (ds.set i d))
    have h2 := shownAll_set (ds := ds) (i := i) (b := b) (c := c) (d := d) (fun e he => (h e he).long) k.long
    simp only [PyData.shown]
    omega
/-- a tuple with one part that has been bent -/
theorem rf_set {n i : Nat} {ds : List PyData} {d : PyData} (h : Bs (n + 1) (.tuple ds)) (k : RF n d) : RF (n + 1) (.tuple (ds.set i d)) := by
  obtain ⟨ds', e, hl, hb⟩ := h
  cases e
  refine ⟨(fine_set (i := i) (fun e he => (bs_fine (hb e he)).mono (show n ≤ n + 6 by omega) (Nat.le_refl _)) k.1).mono (by omega) ?_, lens_tup (by rw [List.length_set]; omega)⟩
  have : ds.length * (bl n + 2) ≤ 10 * (bl n + 2) := Nat.mul_le_mul_right _ hl
  show _ ≤ 2 * (10 * (bl n + 2) + 2) + rb n + 132000
  omega
/-- tuples and lists of a few such parts -/
theorem rf_few {n : Nat} {ds es : List PyData} (h : Bs (n + 1) (.tuple ds)) (hs : ∀ e ∈ es, e ∈ ds ∨ Fine 1 9 e) (hl : es.length ≤ 20) : RF (n + 1) (.tuple es) ∧ RF (n + 1) (.list es) := by
  obtain ⟨ds', e, _, hb⟩ := h
  cases e
  have hf : ∀ e ∈ es, Fine (n + 1) (bl n) e := fun e he => by
    rcases hs e he with h | h
    · exact (bs_fine (hb e h)).mono (by omega) (Nat.le_refl _)
    · exact h.mono (by omega) (by have := bl_pos n; omega)
  have hz : es.length * (bl n + 2) + 2 ≤ rb (n + 1) := by
    have : es.length * (bl n + 2) ≤ 20 * (bl n + 2) := Nat.mul_le_mul_right _ hl
    show _ ≤ 2 * (10 * (bl n + 2) + 2) + rb n + 132000
    omega
  exact ⟨⟨(fine_tup hf).mono (by omega) hz, lens_tup (by omega)⟩, ⟨(fine_list hf).mono (by omega) hz, lens_of (fun _ e => nomatch e) fun _ e => nomatch e⟩⟩
theorem rf_self {n : Nat} {d : PyData} (h : Bs n d) (hl : Lens d) : RF n d := ⟨(bs_fine h).mono (by omega) (by have := rb_bl n; omega), hl⟩
theorem bs_lens : ∀ {n : Nat} {d : PyData}, Bs n d → Lens d
  | 0, d, ⟨i, e, _⟩ => by subst e; exact lens_of (fun _ e => nomatch e) fun _ e => nomatch e
  | n + 1, d, ⟨ds, e, h, _⟩ => by subst e; exact lens_tup (by omega)
theorem rf_one {n : Nat} {d : PyData} (h : Bs n d) : RF n (.tuple [d]) ∧ RF n (.list [d]) := by
  have f := bs_fine h
  have k : ∀ e ∈ [d], Fine n (bl n) e := fun e he => by rw [List.mem_singleton.mp he]; exact f
  have p := rb_bl n
  have q := bl_pos n
  exact ⟨⟨(fine_tup k).mono (by omega) (by show 1 * (bl n + 2) + 2 ≤ _; omega), lens_tup (by show 1 ≤ 500; decide)⟩, ⟨(fine_list k).mono (by omega) (by show 1 * (bl n + 2) + 2 ≤ _; omega), lens_of (fun _ e => nomatch e) fun _ e => nomatch e⟩⟩
/-- _law_bent(deck, thing, deep), deep at most k -/
def spBent (k : Nat) : Sp := fun vs H Q _ => ∃ (H0 : Hp) (dk lf : Addr) (B m n : Nat) (v : V) (d : PyData), vs = [.ref dk, v, .int (m : Int)] ∧ m ≤ k ∧ DeckAt H0 H dk lf B ∧ B + 40 * (k + 1) < 2 ^ 59 ∧ Sd H0 v d ∧ Bs n d ∧
  ∀ v' d' H0' H', Grow dk lf H0 H H0' H' → DeckAt H0' H' dk lf (B + 40 * (k + 1)) → Sd H0' v' d' → RF n d' → Q v' H'
theorem sd_tup {H : Hp} {v : V} {ds : List PyData} (h : Sd H v (.tuple ds)) : ∃ a xs, v = .ref a ∧ H a = some (.tup xs) ∧ SdL H xs ds := by
  cases h with
  | @tup a xs _ ha hs => exact ⟨a, xs, rfl, ha, hs⟩
theorem fine_i0 : Fine 1 9 (.int 0) := ⟨by simp [PyData.showable], by simp [PyData.depth], by simp only [PyData.shown]; decide +kernel⟩
theorem any_cost2 : anyCost 2 = 30 := by decide
theorem fine_i1 : Fine 1 9 (.int 1) := ⟨by simp only [PyData.showable]; decide, by simp [PyData.depth], by simp only [PyData.shown]; decide +kernel⟩
/-- .. and then what the way on comes to -/
theorem if_to {c : TT} {t1 t2 ts : TS} {D : Ends} {σ : List (Option V)} {H : Hp} (I : List (Option V) → Hp → Prop) (h1 : ∀ σ H, I σ H → t1 { D with nx := ts D } σ H) (h : (∀ σ H, I σ H → t1 { D with nx := ts D } σ H) → tSeq (tIfS c t1 t2) ts D σ H) : tSeq (tIfS c t1 t2) ts D σ H := h h1
section
variable {P : Program} {w : World} {K : PySem.W.Frag} {mg : Str → Option Value} {base : Heap} {f : Addr} {fd : FuncData}
theorem scBent : FnScope ["deck", "thing", "deep", "way", "at"] ["deck", "thing", "deep"] (defScope sBent) := ⟨rfl, rfl, rfl, by decide +kernel, rfl, by decide +kernel, by decide +kernel⟩
theorem ok_bent {k : Nat} (F : Fun K "_law_bent" "_law_bent" sBent f fd) (T : Blt2 mg) (bF : Binds K fd ["deck", "thing", "deep"] []) (mF : mg "_law_bent" = some (.ref f)) (C1 : Call1 P w K mg base "_law_draw" 1 ["deck", "many"] spDraw) (C2 : Call1 P w K mg base "_law_pick" 2 ["deck", "some"] spPick)
    (C3 : Call1 P w K mg base "_law_any" 6 ["deck", "deep"] (spAny 2)) (C4 : Call1 P w K mg base "_law_is_integer" 1 ["thing"] (spD isIntD)) (C5 : Call1 P w K mg base "_law_instead" 1 ["some", "at", "item"] spInst)
    (R : FnOk P w K mg base CX0 (k + 6) f fd ["deck", "thing", "deep"] (fun vs H Q E => 0 < k ∧ spBent (k - 1) vs H Q E)) : FnOk P w K mg base CX0 (k + 6 + 1) f fd ["deck", "thing", "deep"] (spBent k) := by
  obtain ⟨f1, d1, G1, b1, k1, m1⟩ := C1.ex
  obtain ⟨f2, d2, G2, b2, k2, m2⟩ := C2.ex
  obtain ⟨f3, d3, G3, b3, k3, m3⟩ := C3.ex
  obtain ⟨f4, d4, G4, b4, k4, m4⟩ := C4.ex
  obtain ⟨f5, d5, G5, b5, k5, m5⟩ := C5.ex
  refine F.ok scBent (fun vs H Q E h => ?_) (fun cdv A outer s H vs Q E hr h => ?_)
  · obtain ⟨H0, dk, lf, B, m, n, v, d, rfl, _⟩ := h
    rfl
  obtain ⟨H0, dk, lf, B, m, n, v, d, rfl, hm, hD, hB, sd, hb, q⟩ := h
  have hr1 : Room 1 _ := hr.mono (by omega)
  have hr2 : Room 2 _ := hr.mono (by omega)
  have hr6 : Room 6 _ := hr.mono (by omega)
  refine ⟨_, pss_cons (ps_if (PW.pt (pw_or (pt_not (pt_val (pe_isD .tuple (pv 1) (by rfl) T.isinstance (by rfl) T.tuple (by decide +kernel)))) (pw_or (pt_cmpR (op_eqT0 hr.units0) (pv 1) (pe_tup pa_nil) (nomark _))
        (pw_or (pt_cmpR op_eq (pv 2) pe_int (nomark _)) (pw_or1 (pt_cmpR op_eq (pe_call G1 hr1 rfl m1 k1 b1 .nil pass0 (pa_cons (pv 0) (pa_cons pe_int pa_nil))) pe_int (nomark _)))))))
      (pss_cons (ps_set (i := 3) scBent.nd rfl (Or.inl rfl) (pe_call G1 hr1 rfl m1 k1 b1 .nil pass0 (pa_cons (pv 0) (pa_cons pe_int pa_nil))))
      (pss_cons (ps_if (pt_val (pe_call G4 hr1 rfl m4 k4 b4 .nil pass0 (pa_cons (pv 1) pa_nil))) (pss_one (ps_ret (pe_call G2 hr2 rfl m2 k2 b2 .nil pass0 (pa_cons (pv 0) (pa_cons (pe_lst (pa_cons pe_int (pa_cons (pe_un un_neg (pv 1)) (pa_cons (pe_op op_sub (pv 1) pe_int) (pa_cons (pe_op op_add (pv 1) pe_int)
        (pa_cons (pe_callTy call_bool1 (by rfl) T.bool (by decide +kernel) (pa_cons (pv 1) pa_nil)) (pa_cons (pe_callTy call_str_int (by rfl) T.str (by decide +kernel) (pa_cons (pv 1) pa_nil)) (pa_cons (pe_tup (pa_cons (pv 1) pa_nil)) (pa_cons (pe_lst (pa_cons (pv 1) pa_nil)) (pa_cons pe_non (pa_cons (pe_op op_add (pv 1) pe_int) pa_nil))))))))))) pa_nil))))) pss_nil)
      (pss_cons (ps_if (PW.pt (pw_or (pt_cmpR op_eq (pv 3) pe_int (nomark _)) (pw_or1 (pt_not (pt_val (pe_isD .tuple (pv 1) (by rfl) T.isinstance (by rfl) T.tuple (by decide +kernel))))))) (pss_one (ps_ret (pe_call G3 hr6 rfl m3 k3 b3 .nil pass0 (pa_cons (pv 0) (pa_cons pe_int pa_nil))))) pss_nil)
      (pss_cons (ps_if (pt_cmpR op_lt (pv 3) pe_int (nomark _)) (pss_one (ps_ret (pe_callTy call_list_of (by rfl) T.list (by decide +kernel) (pa_cons (pv 1) pa_nil)))) pss_nil)
      (pss_cons (ps_if (pt_cmpR op_lt (pv 3) pe_int (nomark _)) (pss_one (ps_ret (pe_op op_catA (pv 1) (pe_tup (pa_cons (pe_call G2 hr2 rfl m2 k2 b2 .nil pass0 (pa_cons (pv 0) (pa_cons (pe_lst (pa_cons (pe_tup pa_nil) (pa_cons pe_int (pa_cons pe_int (pa_cons (pe_tup (pa_cons pe_int pa_nil)) (pa_cons pe_non (pa_cons pe_bl pa_nil))))))) pa_nil))) pa_nil))))) pss_nil)
      (pss_cons (ps_if (pt_cmpR op_lt (pv 3) pe_int (nomark _)) (pss_one (ps_ret (pe_revT (pv 1)))) pss_nil)
      (pss_cons (ps_if (pt_cmpR op_lt (pv 3) pe_int (nomark _)) (pss_one (ps_ret (pe_op op_catA (pv 1) (pe_slice sl_tupA (pv 1) po_none (po_some pe_int))))) pss_nil)
      (pss_one (ps_ret (pe_ifExp (pt_cmpR op_lt (pv 3) pe_int (nomark _)) (pe_slice sl_tupA (pv 1) (po_some pe_int) po_none) (pe_tup (pa_cons (pv 1) pa_nil)))))))))))) pss_nil)
    (pss_cons (ps_set (i := 4) scBent.nd rfl (Or.inl rfl) (pe_call G1 hr1 rfl m1 k1 b1 .nil pass0 (pa_cons (pv 0) (pa_cons (pe_callB call_len_seq (by rfl) T.len PySem.boot_len (pa_cons (pv 1) pa_nil)) pa_nil))))
    (pss_one (ps_ret (pe_call G5 hr1 rfl m5 k5 b5 .nil pass0 (pa_cons (pv 1) (pa_cons (pv 4) (pa_cons (pe_call R hr rfl mF F.kp bF .nil pass0 (pa_cons (pv 0) (pa_cons (pe_ix (r := rIxT K) ix_tup (pv 1) (pv 4) (fun _ _ => rfl)) (pa_cons (pe_op op_sub (pv 2) pe_int) pa_nil)))) pa_nil))))))), ?_⟩
  refine if_to (fun σ' H' => ∃ H0', σ' = [some (.ref dk), some v, some (.int (m : Int)), none, none] ∧ Grow dk lf H0 H H0' H' ∧ DeckAt H0' H' dk lf (B + 1)) ?_ ?_
  · rintro σ' H' ⟨H0', rfl, g, D⟩
    refine ⟨_, rfl, H0', dk, lf, B + 1, 14, rfl, D, by omega, by decide, by decide, fun way H1 w0 w1 g1 D1 => ?_⟩
    have gA := g.trans hD D g1
    have fin0 : ∀ (H0x Hx : Hp) (Bx : Nat), Grow dk lf H0 H H0x Hx → DeckAt H0x Hx dk lf Bx → Bx ≤ B + 40 → ∀ (v' : V) (d' : PyData) (H2 : Hp), Same Hx H2 → (∀ H0a, Same H0x H0a → (∀ x, Hx x = none → H0a x = H2 x) → Sd H0a v' d') → RF n d' → Q v' H2 := fun H0x Hx Bx gx Dx hx v' d' H2 s hsd hrf => by
      obtain ⟨H0a, ga, Da, na⟩ := deck_same Dx s
      exact q v' d' H0a H2 (gx.trans hD Dx ga) (Da.mono (by omega)) (hsd H0a ga.same na) hrf
    have fin := fin0 H0' H1 _ gA D1 (by omega)
    have pick : ∀ (l : Addr) (xs : List V) (H2 : Hp) (q' : VK), Same H1 H2 → H1 l = none → H2 l = some (.lst xs) → 0 < xs.length → xs.length < 100 →
        (∀ (H0a : Hp), Same H0' H0a → (∀ x, H1 x = none → H0a x = H2 x) → ∀ u ∈ xs, ∀ H3, Grow dk lf H0 H H0a H3 → DeckAt H0a H3 dk lf (B + 3) → q' u H3) → spPick [.ref dk, .ref l] H2 q' E := fun l xs H2 q' s hl e h0 h9 k => by
      obtain ⟨H0a, ga, Da, na⟩ := deck_same D1 s
      exact ⟨H0a, dk, lf, l, B + 1 + 1, xs, rfl, Da, by omega, e, (D1.ned hl).symm, (D1.nel hl).symm, h0, by omega, fun u H3 hu g3 D3 => k H0a ga.same na u hu H3 ((gA.trans hD D1 ga).trans hD Da g3) D3⟩
    have sdw := D1.sd (sd.same (g.same.trans g1.same))
    match n, hb with
    | 0, ⟨i, e, hi⟩ =>
      subst e
      cases sd
      refine ⟨_, rfl, _, _, rfl, Sd.int _, _, rfl, ?_⟩
      refine iteT ?_
      refine ⟨_, rfl, _, rfl, _, rfl, _, rfl, _, _, rfl, rfl, _, rfl, _, _, rfl, rfl, _, rfl, .inl ⟨_, rfl, _, rfl, _, rfl, log_small (by omega), _, rfl, (by show 1 ≤ sizeLine; decide), fun p1 h1 => ⟨_, rfl, (by show 1 ≤ sizeLine; decide), fun p2 h2 => ⟨_, rfl, _, _, rfl, rfl, (by show 10 ≤ sizeLine; decide), fun l hl => ?_⟩⟩⟩⟩
      have s1 := same_new h1 (.tup [.int i])
      have s2 := s1.trans (same_new h2 (.lst [.int i]))
      refine pick l _ _ _ (s2.trans (same_new hl _)) (s2.free hl) upd_same (by show 0 < 10; decide) (by show 10 < 100; decide) fun H0a sa na u hu H3 g3 D3 => ?_
      have n12 : p1 ≠ p2 := ne_of_none upd_same h2
      have n2l : p2 ≠ l := ne_of_none upd_same hl
      have n1l : p1 ≠ l := ne_of_none ((upd_ne n12).trans upd_same) hl
      have nx : ∀ (u : V) (d' : PyData), Sd H0a u d' → RF 0 d' → Q u H3 := fun u d' a b => q u d' H0a H3 g3 (D3.mono (by omega)) a b
      have num : ∀ j : Int, j.natAbs < 2 ^ 51 → Q (.int j) H3 := fun j hj => nx _ (.int j) (.int j) ⟨(fine_int (log_small hj)).mono (by omega) (by decide), lens_of (fun _ e => nomatch e) fun _ e => nomatch e⟩
      have b0 : Bs 0 (.int i) := ⟨i, rfl, hi⟩
      simp only [List.mem_cons, List.not_mem_nil, or_false] at hu
      rcases hu with rfl | rfl | rfl | rfl | rfl | rfl | rfl | rfl | rfl | rfl
      · exact num _ (by decide)
      · exact num _ (by omega)
      · exact num _ (by omega)
      · exact num _ (by omega)
      · exact nx _ (.bool (i != 0)) (.bl _) ⟨(fine_bool _).mono (by omega) (by decide), lens_of (fun _ e => nomatch e) fun _ e => nomatch e⟩
      · have hlen : (Str.ofString (toString i)).length ≤ 1921 := by
          rw [PySem.ofString_length]
          exact int_text_length_le (by decide) (log_small (by omega))
        exact nx _ (.str (Str.ofString (toString i))) (.str _) ⟨(fine_str (ofString_small _)).mono (by omega) (by show _ ≤ 132000; omega), lens_str (by omega)⟩
      · exact nx _ (.tuple [.int i]) (.tup (by rw [na _ h1, upd_ne n1l, upd_ne n12, upd_same]) (.cons (.int i) .nil)) (rf_one b0).1
      · exact nx _ (.list [.int i]) (.lst (by rw [na _ (s1.free h2), upd_ne n2l, upd_same]) (.cons (.int i) .nil)) (rf_one b0).2
      · exact nx _ .none .non ⟨fine_none.mono (by omega) (by decide), lens_of (fun _ e => nomatch e) fun _ e => nomatch e⟩
      · exact num _ (by omega)
    | n + 1, hb' =>
      obtain ⟨ds, rfl, hl, hb⟩ := id hb'
      refine ⟨_, rfl, _, _, rfl, sdw, _, rfl, ?_⟩
      refine iteF ?_
      obtain ⟨a, xs, rfl, ha, hs⟩ := sd_tup sd
      have ha1 : H1 a = some (.tup xs) := D1.same _ _ (g1.same _ _ (g.same _ _ ha))
      have lxs := hs.len
      have hsA : ∀ H0a, Same H0' H0a → SdL H0a xs ds := fun H0a s => hs.same (g.same.trans s)
      have any : spAny 2 [.ref dk, .int 2] H1 Q E := ⟨H0', dk, lf, B + 1 + 1, 2, rfl, Nat.le_refl _, D1, by rw [any_cost2]; omega, fun v2 d2 Ha Hb g2 D2 sd2 f2 => q v2 d2 Ha Hb (gA.trans hD D1 g2) (D2.mono (by rw [any_cost2]; omega)) sd2 (any_rf f2)⟩
      refine ⟨_, rfl, rfl, _, rfl, ?_⟩
      refine ite2 (fun _ => ?_) (fun _ => ?_)
      · exact iteT ⟨_, rfl, any⟩
      refine ⟨_, rfl, _, _, rfl, Sd.tup ha1 (hs.same (g.same.trans (g1.same.trans D1.same))), _, rfl, ?_⟩
      refine iteF ?_
      refine ⟨_, rfl, _, _, rfl, rfl, _, rfl, ?_⟩
      refine ite2 (fun _ => ?_) (fun _ => ?_)
      · -- list(thing)
        refine ⟨_, rfl, a, xs, rfl, .inr (SqT.of ha1), fun l hl => ?_⟩
        exact fin _ (.list ds) _ (same_new hl _) (fun H0a s na => .lst (by rw [na _ hl, upd_same]) (hsA _ s)) (rf_few hb' (fun e he => .inl he) (by omega)).2
      refine ⟨_, rfl, _, _, rfl, rfl, _, rfl, ?_⟩
      refine ite2 (fun _ => ?_) (fun _ => ?_)
      · -- thing + (.. ,)
        refine ⟨_, rfl, _, rfl, (by show 0 ≤ sizeLine; decide), fun p1 h1 => ⟨(by show 1 ≤ sizeLine; decide), fun p2 h2 => ⟨(by show 6 ≤ sizeLine; decide), fun l hl => ?_⟩⟩⟩
        have s1 := same_new h1 (.tup [])
        have s2 := s1.trans (same_new h2 (.tup [.int 0]))
        refine pick l _ _ _ (s2.trans (same_new hl _)) (s2.free hl) upd_same (by show 0 < 6; decide) (by show 6 < 100; decide) fun H0a sa na u hu H3 g3 D3 => ?_
        have n12 : p1 ≠ p2 := ne_of_none upd_same h2
        have n2l : p2 ≠ l := ne_of_none upd_same hl
        have n1l : p1 ≠ l := ne_of_none ((upd_ne n12).trans upd_same) hl
        have ha3 : H3 a = some (.tup xs) := D3.same _ _ (sa _ _ (g.same _ _ ha))
        refine ⟨(by show 1 ≤ sizeLine; decide), fun p3 h3 => ?_⟩
        have du : ∃ du, Sd H0a u du ∧ Fine 1 9 du := by
          simp only [List.mem_cons, List.not_mem_nil, or_false] at hu
          rcases hu with rfl | rfl | rfl | rfl | rfl | rfl
          · exact ⟨.tuple [], .tup (by rw [na _ h1, upd_ne n1l, upd_ne n12, upd_same]) .nil, by simp [PyData.showable, PyData.showableAll], by simp [PyData.depth, PyData.depthAll], by simp only [PyData.shown, PyData.shownAll]; decide +kernel⟩
          · exact ⟨.int 0, .int 0, fine_i0⟩
          · exact ⟨.int 1, .int 1, fine_i1⟩
          · exact ⟨.tuple [.int 0], .tup (by rw [na _ (s1.free h2), upd_ne n2l, upd_same]) (.cons (.int 0) .nil), by simp [PyData.showable, PyData.showableAll], by simp [PyData.depth, PyData.depthAll], by simp only [PyData.shown, PyData.shownAll]; decide +kernel⟩
          · exact ⟨.none, .non, fine_none.mono (by omega) (by omega)⟩
          · exact ⟨.bool true, .bl true, (fine_bool _).mono (by omega) (by omega)⟩
        obtain ⟨du, sdu, fdu⟩ := du
        have hsa := hsA _ sa
        have rf := rf_few (es := ds ++ [du]) hb' (fun e he => by
          rcases List.mem_append.mp he with he | he
          · exact .inl he
          · rw [List.mem_singleton.mp he]
            exact .inr fdu) (by rw [List.length_append]; show _ + 1 ≤ _; omega)
        have s3 := same_new h3 (.tup [u])
        have n3 : a ≠ p3 := ne_of_none ha3 h3
        refine ⟨a, p3, xs, [u], rfl, rfl, SqT.of ((upd_ne n3).trans ha3), SqT.of upd_same, sl_small (by show _ + 1 ≤ _; omega), fun z => ?_, fun _ z => absurd z (by simp), fun _ _ p4 h4 => ?_⟩
        · exact fin0 H0a H3 _ g3 D3 (by omega) _ (.tuple (ds ++ [du])) _ s3 (fun H0b sb nb => .tup (xs := xs ++ [u]) (by rw [nb _ h3, upd_same, z]; rfl) ((hsa.same sb).app (.cons (sdu.same sb) .nil))) rf.1
        · exact fin0 H0a H3 _ g3 D3 (by omega) _ (.tuple (ds ++ [du])) _ (s3.trans (same_new h4 _)) (fun H0b sb nb => .tup (xs := xs ++ [u]) (by rw [nb _ (s3.free h4), upd_same]) ((hsa.same sb).app (.cons (sdu.same sb) .nil))) rf.1
      refine ⟨_, rfl, _, _, rfl, rfl, _, rfl, ?_⟩
      refine ite2 (fun _ => ?_) (fun _ => ?_)
      · -- thing[::-1]
        refine ⟨_, rfl, a, xs, rfl, SqT.of ha1, fun l hl => ?_⟩
        exact fin _ (.tuple ds.reverse) _ (same_new hl _) (fun H0a s na => .tup (by rw [na _ hl, upd_same]) (SdL.rev (hsA _ s))) (rf_few hb' (fun e he => .inl (List.mem_reverse.mp he)) (by rw [List.length_reverse]; omega)).1
      refine ⟨_, rfl, _, _, rfl, rfl, _, rfl, ?_⟩
      refine ite2 (fun _ => ?_) (fun _ => ?_)
      · -- thing + thing[:1]
        have c3 : HT.sIx xs.length xs.length (some 1) = min 1 xs.length := HT.sIx_nat _ _ 1
        have rf := rf_few (es := ds ++ ds.take 1) hb' (fun e he => by
          rcases List.mem_append.mp he with he | he
          · exact .inl he
          · exact .inl (List.mem_of_mem_take he)) (by rw [List.length_append, List.length_take]; omega)
        have cut : cutV xs none (some 1) = xs.take 1 := by
          unfold cutV
          rw [HT.sIx_none, c3]
          by_cases z : xs = []
          · rw [z]; rfl
          · have : 0 < xs.length := List.length_pos_iff.mpr z
            rw [show min 1 xs.length - 0 = 1 by omega]
            rfl
        refine ⟨_, rfl, _, rfl, 1, rfl, a, xs, rfl, SqT.of ha1, fun z => ?_, fun z p3 h3 => ?_⟩
        · rw [c3] at z
          have tk : xs.take 1 = xs := List.take_of_length_le (by omega)
          have tk2 : ds.take 1 = ds := List.take_of_length_le (by omega)
          rw [tk2] at rf
          refine ⟨a, a, xs, xs, rfl, rfl, SqT.of ha1, SqT.of ha1, sl_small (by omega), fun z => ?_, fun z1 z2 => absurd z2 z1, fun _ _ p4 h4 => ?_⟩
          · exact fin _ (.tuple (ds ++ ds)) _ (Same.refl _) (fun H0a s na => .tup (xs := xs ++ xs) (by rw [z]; rw [z] at ha; exact s _ _ (g1.same _ _ (g.same _ _ ha))) ((hsA _ s).app (hsA _ s))) rf.1
          · exact fin _ (.tuple (ds ++ ds)) _ (same_new h4 _) (fun H0a s na => .tup (xs := xs ++ xs) (by rw [na _ h4, upd_same]) ((hsA _ s).app (hsA _ s))) rf.1
        · rw [c3] at z
          have n3 : a ≠ p3 := ne_of_none ha1 h3
          have s3 := same_new h3 (.tup (cutV xs none (some 1)))
          have ne : xs ≠ [] := fun e => z (by rw [e]; decide)
          have nec : cutV xs none (some 1) ≠ [] := by
            rw [cut]
            intro e
            have := congrArg List.length e
            have h0 : 0 < xs.length := List.length_pos_iff.mpr ne
            rw [List.length_take, List.length_nil] at this
            omega
          refine ⟨a, p3, xs, _, rfl, rfl, SqT.of ((upd_ne n3).trans ha1), SqT.of upd_same, sl_small (by have := cutV_length xs none (some 1); omega), fun z => absurd z ne, fun _ z2 => absurd z2 nec, fun _ _ p4 h4 => ?_⟩
          exact fin _ (.tuple (ds ++ ds.take 1)) _ (s3.trans (same_new h4 _)) (fun H0a s na => .tup (by rw [na _ (s3.free h4), upd_same, cut]) ((hsA _ s).app ((hsA _ s).take 1))) rf.1
      refine ⟨_, rfl, _, _, rfl, rfl, _, rfl, ?_⟩
      refine ite2 (fun _ => ?_) (fun _ => ?_)
      · -- thing[1:]
        have c3 : HT.sIx xs.length 0 (some 1) = min 1 xs.length := HT.sIx_nat _ _ 1
        refine ⟨_, rfl, 1, rfl, a, xs, rfl, SqT.of ha1, fun _ => ?_, fun z p3 h3 => ?_⟩
        · exact fin _ (.tuple ds) _ (Same.refl _) (fun H0a s na => .tup (s _ _ (g1.same _ _ (g.same _ _ ha))) (hsA _ s)) (rf_few hb' (fun e he => .inl he) (by omega)).1
        · rw [c3] at z
          have h0 : 0 < xs.length := Nat.pos_of_ne_zero fun e => z ⟨by omega, HT.sIx_none _ _⟩
          have cut : cutV xs (some 1) none = xs.drop 1 := by
            unfold cutV
            rw [HT.sIx_none, c3, show min 1 xs.length = 1 by omega]
            exact List.take_of_length_le (by rw [List.length_drop]; omega)
          exact fin _ (.tuple (ds.drop 1)) _ (same_new h3 _) (fun H0a s na => .tup (by rw [na _ h3, upd_same, cut]) ((hsA _ s).drop 1)) (rf_few hb' (fun e he => .inl (List.mem_of_mem_drop he)) (by rw [List.length_drop]; omega)).1
      · refine ⟨_, rfl, (by show 1 ≤ sizeLine; decide), fun l hl => ?_⟩
        exact fin _ (.tuple [.tuple ds]) _ (same_new hl _) (fun H0a s na => .tup (by rw [na _ hl, upd_same]) (.cons (.tup (s _ _ (g1.same _ _ (g.same _ _ ha))) (hsA _ s)) .nil)) (rf_one hb').1
  intro leaf
  have drop0 := hD.mono (show B ≤ B + 1 by omega)
  have lf0 := fun σ (e : σ = [some (.ref dk), some v, some (.int (m : Int)), none, none]) => leaf σ H ⟨H0, e, Grow.refl, drop0⟩
  refine ⟨_, rfl, _, _, rfl, hD.sd sd, _, rfl, ?_⟩
  match n, hb with
  | 0, ⟨i, e, hi⟩ =>
    subst e
    refine iteT (iteT ?_)
    exact lf0 _ rfl
  | n + 1, hb' =>
    obtain ⟨ds, rfl, hl, hb⟩ := id hb'
    obtain ⟨a, xs, rfl, ha0, hs⟩ := sd_tup sd
    have ha := hD.same _ _ ha0
    have lxs := hs.len
    refine iteF ?_
    refine ⟨_, rfl, Nat.zero_le _, fun p hp => ⟨a, p, xs, rfl, rfl, SqT.of ((upd_ne (ne_of_none ha hp)).trans ha), SqT.of upd_same, _, rfl, ?_⟩⟩
    obtain ⟨H0p, gp, Dp, _⟩ := deck_same hD (same_new hp (.tup []))
    refine ite2 (fun _ => ?_) (fun ne => ?_)
    · refine iteT ?_
      exact leaf _ _ ⟨H0p, rfl, gp, Dp.mono (by omega)⟩
    have ne : xs ≠ [] := fun z => ne (by rw [z]; rfl)
    have h0 : 0 < xs.length := List.length_pos_iff.mpr ne
    refine ⟨_, rfl, rfl, _, rfl, ?_⟩
    refine ite2 (fun _ => ?_) (fun m0 => ?_)
    · refine iteT ?_
      exact leaf _ _ ⟨H0p, rfl, gp, Dp.mono (by omega)⟩
    refine ⟨_, rfl, H0p, dk, lf, B, 5, rfl, Dp, by omega, by decide, by decide, fun z H1 z0 z1 g1 D1 => ⟨rfl, _, rfl, ?_⟩⟩
    have gA := gp.trans hD Dp g1
    refine ite2 (fun _ => ?_) (fun _ => ?_)
    · exact leaf _ _ ⟨H0p, rfl, gA, D1⟩
    have m0 : 0 < m := Nat.pos_of_ne_zero fun z => m0 (by rw [z]; rfl)
    have ha1 := D1.same _ _ (gA.same _ _ ha0)
    refine ⟨_, rfl, _, rfl, a, xs, rfl, .inr (SqT.of ha1), H0p, dk, lf, B + 1, (xs.length : Nat), rfl, D1, by omega, by omega, by omega, fun r H2 r0 r1 g2 D2 => ?_⟩
    have gB := gA.trans hD D1 g2
    have ha2 := D2.same _ _ (gB.same _ _ ha0)
    have hi : r.toNat < xs.length := by omega
    have er : r = ((r.toNat : Nat) : Int) := by omega
    have hx : xs[r.toNat]? = some xs[r.toNat] := List.getElem?_eq_getElem hi
    obtain ⟨dx, hdx, sdx⟩ := hs.get hx
    have ix := atI_nat hx
    rw [← er] at ix
    generalize xs[r.toNat] = x at hx sdx ix
    refine ⟨_, rfl, _, rfl, _, rfl, _, rfl, _, rfl, a, xs, r, x, rfl, rfl, SqT.of ha2, ix, _, rfl, _, _, rfl, rfl, by omega, H0p, dk, lf, B + 2, m - 1, n, x, dx, ?_, by omega, D2, by omega, sdx.same gB.same, hb _ (List.mem_of_getElem? hdx), fun v' d' H0b H3 g3 D3 sd3 rf3 => ?_⟩
    · show [V.ref dk, x, V.int ((m : Int) - 1)] = _
      rw [show (m : Int) - 1 = ((m - 1 : Nat) : Int) by omega]
    have gC := gB.trans hD D2 g3
    have ha3 := D3.same _ _ (gC.same _ _ ha0)
    refine ⟨a, xs, r.toNat, v', ?_, ha3, hi, by omega, fun H4 b s4 fb eb => ?_⟩
    · show [V.ref a, V.int r, v'] = _
      rw [← er]
    obtain ⟨H0c, gc, Dc, nc⟩ := deck_same D3 s4
    exact q _ (.tuple (ds.set r.toNat d')) H0c H4 (gC.trans hD D3 gc) (Dc.mono (by omega)) (.tup (by rw [nc _ fb, eb]) (SdL.set (hs.same (gC.same.trans gc.same)) (sd3.same gc.same))) (rf_set hb' rf3)
end
end Zk

set_option maxHeartbeats 4000000
/-! Kc: _law_drawn_poly. (written by genKc.py) -/
namespace Zk
open PySem PySem.Spec PyProof.Rows L2 GxR
abbrev sDPoly : Stmt := top 28
/-- _law_drawn_poly(deck, many, most) -/
def spDPoly : Sp := fun vs H Q _ => ∃ (H0 : Hp) (dk lf : Addr) (B many most : Nat), vs = [.ref dk, .int (many : Int), .int (most : Int)] ∧ many ≤ 8 ∧ most ≤ 12 ∧ DeckAt H0 H dk lf B ∧ B + 40 < 2 ^ 59 ∧
  ∀ a p H0' H', Grow dk lf H0 H H0' H' → DeckAt H0' H' dk lf (B + 40) → PolyAt H0' a p → Good (most : Int) (10 ^ 12) p → p.length ≤ many → Q (.ref a) H'
theorem PT.move {H H' : Hp} : ∀ {ts : List V} {p : List IQ}, (∀ t, V.ref t ∈ ts → H' t = H t) → PT H ts p → PT H' ts p
  | _, _, _, .nil => .nil
  | _, _, h, .cons ⟨t, e1, e2⟩ r => .cons ⟨t, e1, (h t (by rw [e1]; exact List.mem_cons_self)).trans e2⟩ (PT.move (fun u hu => h u (List.mem_cons_of_mem _ hu)) r)
section
variable {P : Program} {w : World} {K : PySem.W.Frag} {mg : Str → Option Value} {base : Heap} {f : Addr} {fd : FuncData}
theorem scDPoly : FnScope ["deck", "many", "most", "found", "turn", "e"] ["deck", "many", "most"] (defScope sDPoly) := ⟨rfl, rfl, rfl, by decide +kernel, rfl, by decide +kernel, by decide +kernel⟩
theorem ok_dpoly (F : Fun K "_law_drawn_poly" "_law_drawn_poly" sDPoly f fd) (T : Blt2 mg) (C1 : Call1 P w K mg base "_law_draw" 1 ["deck", "many"] spDraw) (C2 : Call1 P w K mg base "_law_pick" 2 ["deck", "some"] spPick) : FnOk P w K mg base CX0 3 f fd ["deck", "many", "most"] spDPoly := by
  obtain ⟨f1, d1, G1, b1, k1, m1⟩ := C1.ex
  obtain ⟨f2, d2, G2, b2, k2, m2⟩ := C2.ex
  refine F.ok scDPoly (fun vs H Q E h => ?_) (fun cdv A outer s H vs Q E hr h => ?_)
  · obtain ⟨H0, dk, lf, B, many, most, rfl, _⟩ := h
    rfl
  obtain ⟨H0, dk, lf, B, many, most, rfl, hm, hmo, hK, hB, q⟩ := h
  have hr1 : Room 1 _ := hr.mono (by omega)
  have hr2 : Room 2 _ := hr.mono (by omega)
  have hu := hu_of hr
  refine ⟨_, pss_cons (ps_set (i := 3) scDPoly.nd rfl (Or.inr rfl) pe_dnewK)
    (pss_cons (ps_for PassesOwn.never rfl (pi_range1 (by rfl) T.range (pa_cons (pe_call G1 hr1 rfl m1 k1 b1 .nil pass0 (pa_cons (pv 0) (pa_cons (pe_op op_add (pv 1) pe_int) pa_nil))) pa_nil)) (pg_name (i := 4) scDPoly.nd rfl (Or.inl rfl))
      (pss_one (ps_dput hu (pv 3) (pe_call G1 hr1 rfl m1 k1 b1 .nil pass0 (pa_cons (pv 0) (pa_cons (pe_op op_add (pv 2) pe_int) pa_nil)))
        (pe_call G2 hr2 rfl m2 k2 b2 .nil pass0 (pa_cons (pv 0) (pa_cons (pe_lst (pa_cons pe_int (pa_cons pe_int (pa_cons pe_int (pa_cons pe_int (pa_cons pe_int (pa_cons (pe_op op_add pe_int (pe_call G1 hr1 rfl m1 k1 b1 .nil pass0 (pa_cons (pv 0) (pa_cons pe_int pa_nil))))
          (pa_cons (pe_op op_add pe_int (pe_call G1 hr1 rfl m1 k1 b1 .nil pass0 (pa_cons (pv 0) (pa_cons (pe_op op_pow pe_int pe_int) pa_nil)))) pa_nil)))))))) pa_nil))) rfl)))
    (pss_one (ps_ret (pe_callTy call_tuple_of (by rfl) T.tuple (by decide +kernel) (pa_cons (pe_lc (own := [("e", 5)]) (g := gName 5) (tt := tYes) rfl scDPoly.nd (pi_list (pe_callB (call_sortedDI rfl) (by rfl) T.sorted (by decide +kernel) (pa_cons (pv 3) pa_nil)))
      (blkOk_by (N := ["deck", "many", "most", "found", "turn", "e"]) (sc := defScope sDPoly) (by decide +kernel)) (fun _ _ _ _ _ => pg_name (i := 5) scDPoly.nd rfl (Or.inl rfl)) (fun _ _ _ _ _ => pts_nil)
      (fun _ _ _ _ _ => pe_tup (pa_cons (pv 5) (pa_cons (pe_dget hu (pv 3) (pv 5) (fun _ _ => rfl)) pa_nil)))) pa_nil))))), ?_⟩
  intro dd hd
  have ndd := hK.ned hd
  have nld := hK.nel hd
  have D0 := hK.drop hd (o := .dK [])
  have G0 : Grow dk lf H0 H H0 (upd H dd (.dK [])) := Grow.drop hd
  refine ⟨_, rfl, _, rfl, _, _, rfl, rfl, H0, dk, lf, B, (many : Int) + 1, rfl, D0, by omega, by omega, by omega, fun r H1 r0 r1 g1 D1 => ⟨r, rfl, by omega, by omega, ?_⟩⟩
  have gA := G0.trans hK D0 g1
  have e1 : H1 dd = some (.dK (dI [])) := g1.frame _ _ ndd.symm nld.symm upd_same
  refine for_range (lo := 0) (n := r.toNat) (fun i σ H' => ∃ (H0i : Hp) (d : List IQ) (u : Option V), σ = [some (.ref dk), some (.int (many : Int)), some (.int (most : Int)), some (.ref dd), u, none] ∧ Grow dk lf H0 H H0i H' ∧ DeckAt H0i H' dk lf (B + 1 + 4 * i) ∧ H' dd = some (.dK (dI d)) ∧ H0i dd = none ∧
      (d.map (·.1)).Nodup ∧ (∀ x ∈ d, 0 ≤ x.1 ∧ x.1 ≤ most ∧ 1 ≤ x.2 ∧ x.2 ≤ 10 ^ 12) ∧ d.length ≤ i) ⟨H0, [], none, rfl, gA, D1, e1, hK.free hd, List.nodup_nil, fun x hx => absurd hx List.not_mem_nil, Nat.le_refl _⟩ ?_ ?_
  · rintro i σ H' hi ⟨H0i, d, u, rfl, g, DK, ed, e0, nd, hall, hlen⟩
    have hi8 : i ≤ 8 := by omega
    refine ⟨_, rfl, _, rfl, H0i, dk, lf, B + 1 + 4 * i, 30, rfl, DK, by omega, by decide, by decide, fun x1 Ha xa0 xa1 ga Da => ⟨_, _, rfl, rfl, _, rfl, 10, 12, rfl, rfl, ⟨by decide, by decide, by decide⟩, H0i, dk, lf, B + 1 + 4 * i + 1, 10 ^ 12, rfl, Da, by omega, by decide, by decide, fun x2 Hb xb0 xb1 gb Db => ⟨_, _, rfl, rfl, (by show 7 ≤ sizeLine; decide), fun l hl => ?_⟩⟩⟩
    have hdd : ∀ {Hx Hy : Hp}, Grow dk lf H0i Hx H0i Hy → Hx dd = some (.dK (dI d)) → Hy dd = some (.dK (dI d)) := fun gx e => gx.frame _ _ ndd.symm nld.symm e
    have eb := hdd gb (hdd ga ed)
    have gl := Grow.drop (dk := dk) (lf := lf) (H0 := H0i) hl (o := .lst [.int 1, .int 1, .int 2, .int 3, .int 10, .int (1 + x1), .int (1 + x2)])
    have Dl := Db.drop hl (o := .lst [.int 1, .int 1, .int 2, .int 3, .int 10, .int (1 + x1), .int (1 + x2)])
    refine ⟨H0i, dk, lf, l, B + 1 + 4 * i + 1 + 1, _, rfl, Dl, by omega, upd_same, (Db.ned hl).symm, (Db.nel hl).symm, (by show 0 < 7; decide), (by show 7 < 2 ^ 59; decide), fun v Hc hv gc Dc => ?_⟩
    have ndl : dd ≠ l := ne_of_none eb hl
    have ec := hdd gc ((upd_ne ndl).trans eb)
    have hv' : ∃ c : Int, v = .int c ∧ 1 ≤ c ∧ c ≤ 10 ^ 12 := by
      have : (10 : Int) ^ 12 = 1000000000000 := by decide
      rw [this] at xb1 ⊢
      simp only [List.mem_cons, List.not_mem_nil, or_false] at hv
      rcases hv with rfl | rfl | rfl | rfl | rfl | rfl | rfl <;> exact ⟨_, rfl, by omega, by omega⟩
    obtain ⟨c, rfl, c1, c2⟩ := hv'
    refine ⟨_, rfl, _, rfl, _, rfl, _, _, rfl, rfl, H0i, dk, lf, B + 1 + 4 * i + 1 + 1 + 1, (most : Int) + 1, rfl, Dc, by omega, by omega, by omega, fun y Hd y0 y1 gd Dd => ?_⟩
    have ee := hdd gd ec
    refine ⟨dd, _, rfl, DPut.k (k := Sum.inl y) ee (sl_lt (by unfold dI; rw [List.length_map]; omega)), ?_⟩
    rw [putK_dI]
    have gAll := ((((g.trans hK DK ga).trans hK Da gb).trans hK Db gl).trans hK Dl gc).trans hK Dc gd
    refine ⟨H0i, setK d y c, _, rfl, gAll.upd' hd, (Dd.change e0 ndd nld).mono (by omega), upd_same, e0, setK_nodup nd, fun x hx => ?_, Nat.le_trans (setK_len d y c) (by omega)⟩
    rcases setK_mem hx with rfl | hx
    · exact ⟨y0, by omega, c1, c2⟩
    · exact hall x hx
  · rintro σ H' ⟨H0i, d, u, rfl, g, DK, ed, e0, nd, hall, hlen⟩
    have ld : d.length < 64 := by omega
    have ks : (dI d).map (·.1) = (d.map (·.1)).map Sum.inl := by
      unfold dI
      rw [List.map_map, List.map_map]
      rfl
    refine ⟨_, rfl, _, _, d.map (·.1), rfl, .inl ed, ks, by rw [List.length_map]; exact ld, fun ys v hp hs hv => ?_⟩
    have nod : ys.Nodup := hp.nodup_iff.mpr nd
    have av := ne_of_none ed hv
    have keys : ∀ e ∈ ys, getK d e = some ((getK d e).getD 0) := fun e he => by
      cases z : getK d e with
      | none => exact absurd (hp.mem_iff.mp he) (getK_none z)
      | some _ => rfl
    refine ⟨v, rfl, ⟨_, SqL.of upd_same⟩, fun D hD => lc_list (K := K) (xs := ys.map V.int) (fun i H1 => ∃ ts, H1 D = some (.lst ts) ∧ PT H1 ts ((ys.take i).map fun e => (e, (getK d e).getD 0)) ∧ (∀ b o, upd H' v (.lst (ys.map V.int)) b = some o → H1 b = some o) ∧ ∀ t, V.ref t ∈ ts → H' t = none)
      ⟨[], upd_same, .nil, same_new hD _, fun t ht => absurd ht List.not_mem_nil⟩ (fun i H1 _ ⟨_, _, _, old, _⟩ => SqL.of (old _ _ upd_same)) ?_ ?_⟩
    · rintro i x H1 hx ⟨ts, e1, e2, old, fr⟩
      have hi : i < ys.length := by
        have := (List.getElem?_eq_some_iff.mp hx).1
        rwa [List.length_map] at this
      have hy : ys[i]? = some ys[i] := List.getElem?_eq_getElem hi
      rw [List.getElem?_map, hy] at hx
      obtain rfl : V.int ys[i] = x := Option.some.inj hx
      generalize ys[i] = e at hy
      refine ⟨rfl, ?_⟩
      dsimp only [tYes]
      refine iteT ?_
      have g := DGet.k (k := Sum.inl e) (old _ _ ((upd_ne av).trans ed))
      rw [valV_dI, keys e (List.mem_of_getElem? hy)] at g
      refine ⟨_, rfl, _, rfl, _, rfl, _, _, rfl, g, ?_⟩
      refine ⟨by show 2 ≤ sizeLine; decide, fun w hw => ?_⟩
      have nD : D ≠ w := ne_of_none e1 hw
      have lts := PT.len e2
      rw [List.length_map, List.length_take] at lts
      have hlen := hp.length_eq
      rw [List.length_map] at hlen
      refine ⟨ts, (upd_ne nD).trans e1, sl_lt (by have := ld; omega), ts ++ [.ref w], upd_same, ?_, fun b o hb => ?_, fun t ht => ?_⟩
      · rw [List.take_add_one, hy, List.map_append]
        refine PT.app (Paired.mapP e2 fun v z ⟨t, h1, h2⟩ => ⟨t, h1, ?_⟩) (.cons ⟨w, rfl, by rw [upd_ne nD.symm, upd_same]⟩ .nil)
        rw [upd_ne (ne_of h2 e1 fun z => nomatch z)]
        exact same_new hw _ _ _ h2
      · rw [upd_ne (ne_of_none hb hD)]
        exact same_new hw _ _ _ (old _ _ hb)
      · rcases List.mem_append.mp ht with ht | ht
        · exact fr t ht
        · cases List.mem_singleton.mp ht
          exact Same.free (fun c o hc => old _ _ (same_new hv _ _ _ hc) : Same H' H1) hw
    · rintro H1 ⟨ts, e1, e2, old, fr⟩
      rw [List.length_map, List.take_of_length_le (Nat.le_refl _)] at e2
      refine ⟨D, ts, rfl, .inl ⟨SqL.of e1, fun b hb => ?_⟩⟩
      have asc : Asc (ys.map fun e => (e, (getK d e).getD 0)) := List.pairwise_map.mpr ((hs.and nod).imp fun q => by
        obtain ⟨q1, q2⟩ := q
        omega)
      have perm : (ys.map fun e => (e, (getK d e).getD 0)).Perm d := by
        have e0 : (d.map (·.1)).map (fun e => (e, (getK d e).getD 0)) = d := by
          rw [List.map_map]
          conv => rhs; rw [← List.map_id d]
          refine List.map_congr_left fun x hx => ?_
          show (x.1, (getK d x.1).getD 0) = x
          cases z : getK d x.1 with
          | none => exact absurd (List.mem_map.mpr ⟨x, hx, rfl⟩) (getK_none z)
          | some c => rw [show x = (x.1, x.2) from rfl, nodup_eq nd (getK_some z) hx]; rfl
        have := hp.map fun e => (e, (getK d e).getD 0)
        rw [e0] at this
        exact this
      have sF : Same H' (upd H1 b (.tup ts)) := fun c o hc => same_new hb _ _ _ (old _ _ (same_new hv _ _ _ hc))
      have pF : PolyAt (upd H1 b (.tup ts)) b (ys.map fun e => (e, (getK d e).getD 0)) := ⟨ts, upd_same, PT.sm (Same.sm (same_new hb _)) e2⟩
      obtain ⟨H0a, ga, Da, na⟩ := deck_same DK sF
      have fb : H' b = none := Same.free (fun c o hc => old _ _ (same_new hv _ _ _ hc) : Same H' H1) hb
      have pA : PolyAt H0a b (ys.map fun e => (e, (getK d e).getD 0)) := ⟨ts, by rw [na _ fb, upd_same], PT.move (fun t ht => na _ (fr t ht)) (PT.sm (Same.sm (same_new hb _)) e2)⟩
      refine q b _ H0a _ (g.trans hK DK ga) (Da.mono (by omega)) pA ⟨asc, fun x hx => ?_⟩ ?_
      · exact hall x (perm.mem_iff.mp hx)
      · rw [perm.length_eq]
        omega
end
end Zk

set_option maxHeartbeats 4000000
/-! Kd: _law_spoilt. -/
namespace Zk
open PySem PySem.Spec PyProof.Rows L2 GxR
abbrev sSpo : Stmt := top 31
/-- _law_spoilt(deck, thing), thing at most of level n -/
def spSpo (n : Nat) : Sp := fun vs H Q _ => ∃ (H0 : Hp) (dk lf : Addr) (B m : Nat) (v : V) (d : PyData), vs = [.ref dk, v] ∧ m ≤ n ∧ DeckAt H0 H dk lf B ∧ B + 100 * (n + 1) < 2 ^ 59 ∧ Sd H0 v d ∧ Bs m d ∧
  ∀ v' d' H0' H', Grow dk lf H0 H H0' H' → DeckAt H0' H' dk lf (B + 100 * (n + 1)) → Sd H0' v' d' → RF m d' → Q v' H'
section
variable {P : Program} {w : World} {K : PySem.W.Frag} {mg : Str → Option Value} {base : Heap} {f : Addr} {fd : FuncData}
theorem scSpo : FnScope ["deck", "thing", "at"] ["deck", "thing"] (defScope sSpo) := ⟨rfl, rfl, rfl, by decide +kernel, rfl, by decide +kernel, by decide +kernel⟩
theorem ok_spo {n : Nat} (F : Fun K "_law_spoilt" "_law_spoilt" sSpo f fd) (T : Blt2 mg) (bF : Binds K fd ["deck", "thing"] []) (mF : mg "_law_spoilt" = some (.ref f)) (C1 : Call1 P w K mg base "_law_draw" 1 ["deck", "many"] spDraw) (C2 : Call1 P w K mg base "_law_pick" 2 ["deck", "some"] spPick)
    (C3 : Call1 P w K mg base "_law_bent" 8 ["deck", "thing", "deep"] (spBent 1)) (C4 : Call1 P w K mg base "_law_is_integer" 1 ["thing"] (spD isIntD)) (C5 : Call1 P w K mg base "_law_instead" 1 ["some", "at", "item"] spInst)
    (R : FnOk P w K mg base CX0 (n + 8) f fd ["deck", "thing"] (fun vs H Q E => 0 < n ∧ spSpo (n - 1) vs H Q E)) : FnOk P w K mg base CX0 (n + 8 + 1) f fd ["deck", "thing"] (spSpo n) := by
  obtain ⟨f1, d1, G1, b1, k1, m1⟩ := C1.ex
  obtain ⟨f2, d2, G2, b2, k2, m2⟩ := C2.ex
  obtain ⟨f3, d3, G3, b3, k3, m3⟩ := C3.ex
  obtain ⟨f4, d4, G4, b4, k4, m4⟩ := C4.ex
  obtain ⟨f5, d5, G5, b5, k5, m5⟩ := C5.ex
  refine F.ok scSpo (fun vs H Q E h => ?_) (fun cdv A outer s H vs Q E hr h => ?_)
  · obtain ⟨H0, dk, lf, B, m, v, d, rfl, _⟩ := h
    rfl
  obtain ⟨H0, dk, lf, B, m, v, d, rfl, hm, hD, hB, sd, hb, q⟩ := h
  have hr1 : Room 1 _ := hr.mono (by omega)
  have hr2 : Room 2 _ := hr.mono (by omega)
  have hr8 : Room 8 _ := hr.mono (by omega)
  refine ⟨_, pss_cons (ps_if (PW.pt (pw_and (pt_val (pe_isD .str (pv 1) (by rfl) T.isinstance (by rfl) T.str (by decide +kernel))) (pw_and1 (pt_cmpR op_gt (pe_call G1 hr1 rfl m1 k1 b1 .nil pass0 (pa_cons (pv 0) (pa_cons pe_int pa_nil))) pe_int (nomark _))))) (pss_one ps_never) pss_nil)
    (pss_cons (ps_if (PW.pt (pw_and (pt_val (pe_isD .tuple (pv 1) (by rfl) T.isinstance (by rfl) T.tuple (by decide +kernel))) (pw_and (pt_cmpR (op_neT0 hr.units0) (pv 1) (pe_tup pa_nil) (nomark _)) (pw_and1 (pt_cmpR op_eq (pe_call G1 hr1 rfl m1 k1 b1 .nil pass0 (pa_cons (pv 0) (pa_cons pe_int pa_nil))) pe_int (nomark _))))))
      (pss_one (ps_ret (pe_slice sl_tupA (pv 1) po_none (po_some (pe_un un_neg pe_int))))) pss_nil)
    (pss_cons (ps_if (PW.pt (pw_or (pt_not (pt_val (pe_isD .tuple (pv 1) (by rfl) T.isinstance (by rfl) T.tuple (by decide +kernel)))) (pw_or (pt_cmpR (op_eqT0 hr.units0) (pv 1) (pe_tup pa_nil) (nomark _))
        (pw_or1 (pt_cmpR op_eq (pe_call G1 hr1 rfl m1 k1 b1 .nil pass0 (pa_cons (pv 0) (pa_cons pe_int pa_nil))) pe_int (nomark _))))))
      (pss_cons (ps_if (PW.pt (pw_and (pt_val (pe_call G4 hr1 rfl m4 k4 b4 .nil pass0 (pa_cons (pv 1) pa_nil))) (pw_and1 (pt_cmpR op_eq (pe_call G1 hr1 rfl m1 k1 b1 .nil pass0 (pa_cons (pv 0) (pa_cons pe_int pa_nil))) pe_int (nomark _)))))
          (pss_one (ps_ret (pe_op op_add (pv 1) (pe_call G2 hr2 rfl m2 k2 b2 .nil pass0 (pa_cons (pv 0) (pa_cons (pe_lst (pa_cons pe_int (pa_cons (pe_un un_neg pe_int) (pa_cons pe_int pa_nil)))) pa_nil)))))) pss_nil)
        (pss_one (ps_ret (pe_call G3 hr8 rfl m3 k3 b3 .nil pass0 (pa_cons (pv 0) (pa_cons (pv 1) (pa_cons pe_int pa_nil))))))) pss_nil)
    (pss_cons (ps_set (i := 2) scSpo.nd rfl (Or.inl rfl) (pe_call G1 hr1 rfl m1 k1 b1 .nil pass0 (pa_cons (pv 0) (pa_cons (pe_callB call_len_seq (by rfl) T.len PySem.boot_len (pa_cons (pv 1) pa_nil)) pa_nil))))
    (pss_one (ps_ret (pe_call G5 hr1 rfl m5 k5 b5 .nil pass0 (pa_cons (pv 1) (pa_cons (pv 2) (pa_cons (pe_call R hr rfl mF F.kp bF .nil pass0 (pa_cons (pv 0) (pa_cons (pe_ix (r := rIxT K) ix_tup (pv 1) (pv 2) (fun _ _ => rfl)) pa_nil))) pa_nil))))))))), ?_⟩
  -- what bent makes of it
  have bent : ∀ Hx H0x Bx, Grow dk lf H0 H H0x Hx → DeckAt H0x Hx dk lf Bx → Bx ≤ B + 5 → spBent 1 [.ref dk, v, .int 1] Hx Q E := fun Hx H0x Bx gx Dx hx =>
    ⟨H0x, dk, lf, Bx, 1, m, v, d, rfl, Nat.le_refl _, Dx, by omega, sd.same gx.same, hb, fun v' d' H0' H' g D sd' rf => q v' d' H0' H' (gx.trans hD Dx g) (D.mono (by omega)) sd' rf⟩
  match m, hb with
  | 0, ⟨i, e, hi⟩ =>
    subst e
    cases sd
    refine ⟨_, rfl, _, _, rfl, Sd.int _, _, rfl, ?_⟩
    refine iteF (iteF ?_)
    refine ⟨_, rfl, _, _, rfl, Sd.int _, _, rfl, ?_⟩
    refine iteF (iteF ?_)
    refine ⟨_, rfl, _, _, rfl, Sd.int _, _, rfl, ?_⟩
    refine iteT (iteT ?_)
    refine ⟨_, rfl, _, _, rfl, Sd.int _, _, rfl, ?_⟩
    refine iteT ?_
    refine ⟨_, rfl, H0, dk, lf, B, 2, rfl, hD, by omega, by decide, by decide, fun z H1 z0 z1 g1 D1 => ⟨rfl, _, rfl, ?_⟩⟩
    refine ite2 (fun _ => ?_) (fun _ => ?_)
    · refine ⟨_, rfl, _, rfl, _, rfl, (by show 3 ≤ sizeLine; decide), fun l hl => ?_⟩
      have gl := Grow.drop (dk := dk) (lf := lf) (H0 := H0) hl (o := .lst [.int 1, .int (-1), .int 2])
      have Dl := D1.drop hl (o := .lst [.int 1, .int (-1), .int 2])
      refine ⟨H0, dk, lf, l, B + 1, _, rfl, Dl, by omega, upd_same, (D1.ned hl).symm, (D1.nel hl).symm, (by show 0 < 3; decide), (by show 3 < 2 ^ 59; decide), fun u H2 hu g2 D2 => ?_⟩
      have gA := (g1.trans hD D1 gl).trans hD Dl g2
      have num : ∀ j : Int, j.natAbs < 2 ^ 51 → Q (.int j) H2 := fun j hj => q _ (.int j) H0 H2 gA (D2.mono (by omega)) (.int j) ⟨(fine_int (log_small hj)).mono (by omega) (by decide), lens_of (fun _ e => nomatch e) fun _ e => nomatch e⟩
      simp only [List.mem_cons, List.not_mem_nil, or_false] at hu
      rcases hu with rfl | rfl | rfl
      · exact ⟨_, _, rfl, rfl, num _ (by omega)⟩
      · exact ⟨_, _, rfl, rfl, num _ (by omega)⟩
      · exact ⟨_, _, rfl, rfl, num _ (by omega)⟩
    · exact ⟨_, rfl, _, rfl, bent H1 H0 (B + 1) g1 D1 (by omega)⟩
  | m + 1, hb' =>
    obtain ⟨ds, rfl, hl, hb⟩ := id hb'
    obtain ⟨a, xs, rfl, ha0, hs⟩ := sd_tup sd
    have ha := hD.same _ _ ha0
    have lxs := hs.len
    refine ⟨_, rfl, _, _, rfl, hD.sd sd, _, rfl, ?_⟩
    refine iteF (iteF ?_)
    unfold tNext
    dsimp only
    refine seq_if (fun σ' H' => ∃ H0', σ' = [some (.ref dk), some (.ref a), none] ∧ Grow dk lf H0 H H0' H' ∧ DeckAt H0' H' dk lf (B + 1)) ?_ ?_
    · rintro σ' H1 ⟨H01, rfl, g1, D1⟩
      have sd1 := D1.sd (sd.same g1.same)
      refine if_to (fun σ' H' => ∃ H0', σ' = [some (.ref dk), some (.ref a), none] ∧ Grow dk lf H0 H H0' H' ∧ DeckAt H0' H' dk lf (B + 2)) ?_ ?_
      · rintro σ' H2 ⟨H02, rfl, g2, D2⟩
        refine ⟨_, rfl, _, _, rfl, D2.sd (sd.same g2.same), _, rfl, ?_⟩
        refine iteF (iteF ?_)
        exact ⟨_, rfl, _, rfl, bent H2 H02 (B + 2) g2 D2 (by omega)⟩
      intro leaf
      have ha1 := D1.same _ _ (g1.same _ _ ha0)
      refine ⟨_, rfl, _, _, rfl, sd1, _, rfl, ?_⟩
      refine iteF ?_
      refine ⟨_, rfl, Nat.zero_le _, fun p hp => ⟨a, p, xs, rfl, rfl, SqT.of ((upd_ne (ne_of_none ha1 hp)).trans ha1), SqT.of upd_same, _, rfl, ?_⟩⟩
      obtain ⟨H0p, gp, Dp, _⟩ := deck_same D1 (same_new hp (.tup []))
      have gP := g1.trans hD D1 gp
      refine ite2 (fun _ => ?_) (fun ne => ?_)
      · refine iteT ?_
        exact leaf _ _ ⟨H0p, rfl, gP, Dp.mono (by omega)⟩
      have ne : xs ≠ [] := fun z => ne (by rw [z]; rfl)
      have h0 : 0 < xs.length := List.length_pos_iff.mpr ne
      refine ⟨_, rfl, H0p, dk, lf, B + 1, 6, rfl, Dp, by omega, by decide, by decide, fun z H2 z0 z1 g2 D2 => ⟨rfl, _, rfl, ?_⟩⟩
      have gA := gP.trans hD Dp g2
      refine ite2 (fun _ => ?_) (fun _ => ?_)
      · exact leaf _ _ ⟨H0p, rfl, gA, D2⟩
      have ha2 := D2.same _ _ (gA.same _ _ ha0)
      refine ⟨_, rfl, _, rfl, a, xs, rfl, .inr (SqT.of ha2), H0p, dk, lf, B + 2, (xs.length : Nat), rfl, D2, by omega, by omega, by omega, fun r H3 r0 r1 g3 D3 => ?_⟩
      have gB := gA.trans hD D2 g3
      have ha3 := D3.same _ _ (gB.same _ _ ha0)
      have hi : r.toNat < xs.length := by omega
      have er : r = ((r.toNat : Nat) : Int) := by omega
      have hx : xs[r.toNat]? = some xs[r.toNat] := List.getElem?_eq_getElem hi
      obtain ⟨dx, hdx, sdx⟩ := hs.get hx
      have ix := atI_nat hx
      rw [← er] at ix
      generalize xs[r.toNat] = x at hx sdx ix
      refine ⟨_, rfl, _, rfl, _, rfl, _, rfl, _, rfl, a, xs, r, x, rfl, rfl, SqT.of ha3, ix, by omega, H0p, dk, lf, B + 3, m, x, dx, rfl, by omega, D3, by omega, sdx.same gB.same, hb _ (List.mem_of_getElem? hdx), fun v' d' H0b H4 g4 D4 sd4 rf4 => ?_⟩
      have gC := gB.trans hD D3 g4
      have ha4 := D4.same _ _ (gC.same _ _ ha0)
      refine ⟨a, xs, r.toNat, v', ?_, ha4, hi, by omega, fun H5 b s5 fb eb => ?_⟩
      · show [V.ref a, V.int r, v'] = _
        rw [← er]
      obtain ⟨H0c, gc, Dc, nc⟩ := deck_same D4 s5
      exact q _ (.tuple (ds.set r.toNat d')) H0c H5 (gC.trans hD D4 gc) (Dc.mono (by omega)) (.tup (by rw [nc _ fb, eb]) (SdL.set (hs.same (gC.same.trans gc.same)) (sd4.same gc.same))) (rf_set hb' rf4)
    intro rest
    refine ⟨_, rfl, _, _, rfl, hD.sd sd, _, rfl, ?_⟩
    refine iteT ?_
    refine ⟨_, rfl, Nat.zero_le _, fun p hp => ⟨a, p, xs, rfl, rfl, SqT.of ((upd_ne (ne_of_none ha hp)).trans ha), SqT.of upd_same, _, rfl, ?_⟩⟩
    obtain ⟨H0p, gp, Dp, _⟩ := deck_same hD (same_new hp (.tup []))
    refine ite2 (fun ne => ?_) (fun _ => ?_)
    · refine ⟨_, rfl, H0p, dk, lf, B, 8, rfl, Dp, by omega, by decide, by decide, fun z H1 z0 z1 g1 D1 => ⟨rfl, _, rfl, ?_⟩⟩
      have gA := gp.trans hD Dp g1
      refine ite2 (fun _ => ?_) (fun _ => ?_)
      · -- thing[:-1]
        have ha1 := D1.same _ _ (gA.same _ _ ha0)
        have c3 : HT.sIx xs.length xs.length (some (-1)) = xs.length - 1 := by
          show (if (-1 : Int) < 0 then ((-1 : Int) + (xs.length : Int)).toNat else min (-1 : Int).toNat xs.length) = _
          rw [if_pos (by decide)]
          omega
        have h0 : 0 < xs.length := List.length_pos_iff.mpr fun z => by rw [z] at ne; exact absurd ne (by decide)
        have cut : cutV xs none (some (-1)) = xs.take (xs.length - 1) := by
          unfold cutV
          rw [HT.sIx_none, c3]
          rfl
        refine ⟨_, rfl, _, rfl, _, rfl, a, xs, rfl, SqT.of ha1, fun z => absurd z.2 (by rw [c3]; omega), fun _ l hl => ?_⟩
        obtain ⟨H0c, gc, Dc, nc⟩ := deck_same D1 (same_new hl (.tup (cutV xs none (some (-1)))))
        exact q _ (.tuple (ds.take (xs.length - 1))) H0c _ (gA.trans hD D1 gc) (Dc.mono (by omega)) (.tup (by rw [nc _ hl, upd_same, cut]) (SdL.take _ (hs.same (gA.same.trans gc.same)))) (rf_few hb' (fun e he => .inl (List.mem_of_mem_take he)) (by rw [List.length_take]; omega)).1
      · exact rest _ _ ⟨H0p, rfl, gA, D1⟩
    · exact iteF (rest _ _ ⟨H0p, rfl, gp, Dp.mono (by omega)⟩)
end
end Zk

set_option maxHeartbeats 4000000
/-! Ke: expressions that make data; _law_near. -/
namespace Zk
open PySem PySem.Spec PyProof.Rows L2 GxR
abbrev sNear : Stmt := top 34
/-- what stands of H2: of H what stands in H0, and all that is new since -/
def mix (H0 H H2 : Hp) : Hp := fun x => if (H x).isNone then H2 x else H0 x
section
variable {H0 H H2 H3 : Hp} {dk lf : Addr} {B : Nat}
theorem mix_new {x : Addr} (h : H x = none) : mix H0 H H2 x = H2 x := by
  unfold mix
  rw [h]
  rfl
theorem mix_old {x : Addr} {o : HO} (h : H x = some o) : mix H0 H H2 x = H0 x := by
  unfold mix
  rw [h]
  rfl
theorem mix_same (s : Same H2 H3) : Same (mix H0 H H2) (mix H0 H H3) := fun b o e => by
  cases z : H b with
  | none =>
    rw [mix_new z] at e ⊢
    exact s _ _ e
  | some u => rwa [mix_old z] at e ⊢
theorem mix_low (h : Same H0 H) : Same H0 (mix H0 H H2) := fun b o e => by rw [mix_old (h _ _ e)]; exact e
theorem mix_up (h : Same H0 H) (s : Same H H2) : Same (mix H0 H H2) H2 := fun b o e => by
  cases z : H b with
  | none => rwa [mix_new z] at e
  | some u =>
    rw [mix_old z] at e
    exact s _ _ (h _ _ e)
theorem mix_deck (h : DeckAt H0 H dk lf B) (s : Same H H2) : Grow dk lf H0 H (mix H0 H H2) H2 ∧ DeckAt (mix H0 H H2) H2 dk lf B := by
  obtain ⟨od, ed⟩ := h.at_d
  obtain ⟨ol, el⟩ := h.at_l
  exact ⟨⟨mix_low h.same, fun b o _ _ e => s _ _ e, fun b o e => mix_old e⟩, h.move (mix_up h.same s) ((mix_old ed).trans h.off) ((mix_old el).trans h.offl) ((s _ _ ed).trans ed.symm) ((s _ _ el).trans el.symm)⟩
end
/-- the expression makes this data -/
def Ev (H0 H : Hp) (σ : List (Option V)) (t : TE) (d : PyData) : Prop := ∀ H1 Q, Same H H1 → (∀ v H2, Same H1 H2 → Sd (mix H0 H H2) v d → Q v H2) → t σ H1 Q
def EvA (H0 H : Hp) (σ : List (Option V)) (t : TA) (ds : List PyData) : Prop := ∀ H1 Q, Same H H1 → (∀ vs H2, Same H1 H2 → SdL (mix H0 H H2) vs ds → Q vs H2) → t σ H1 Q
section
variable {H0 H : Hp} {σ : List (Option V)} {t u : TE} {ta : TA} {d e : PyData} {ds es : List PyData} {K : PySem.W.Frag}
theorem ev_var {i : Nat} {v : V} (h : Same H0 H) (e : σ[i]? = some (some v)) (s : Sd H0 v d) : Ev H0 H σ (tVar i) d := fun H1 Q sH k => ⟨v, e, k v H1 (Same.refl _) (s.same (mix_low h))⟩
theorem ev_int (i : Int) : Ev H0 H σ (tC (.int i)) (.int i) := fun H1 Q sH k => k _ H1 (Same.refl _) (.int i)
theorem ev_neg (i : Int) : Ev H0 H σ (tUn (rU fun i => V.int (-i)) (tC (.int i))) (.int (-i)) := fun H1 Q sH k => ⟨_, rfl, k _ H1 (Same.refl _) (.int _)⟩
theorem ev_bl (b : Bool) : Ev H0 H σ (tC (.bl b)) (.bool b) := fun H1 Q sH k => k _ H1 (Same.refl _) (.bl b)
theorem ev_str (x : Str) : Ev H0 H σ (tC (.str x)) (.str x) := fun H1 Q sH k => k _ H1 (Same.refl _) (.str x)
theorem ev_non : Ev H0 H σ (tC .non) .none := fun H1 Q sH k => k _ H1 (Same.refl _) .non
theorem eva_nil : EvA H0 H σ tNil [] := fun H1 Q sH k => k _ H1 (Same.refl _) .nil
theorem eva_cons (h : Ev H0 H σ t d) (hr : EvA H0 H σ ta ds) : EvA H0 H σ (tCons t ta) (d :: ds) := fun H1 Q sH k => h H1 _ sH fun v H2 s2 sd => hr H2 _ (sH.trans s2) fun vs H3 s3 sds => k _ H3 (s2.trans s3) (.cons (sd.same (mix_same s3)) sds)
theorem ev_tup (h : EvA H0 H σ ta ds) (hl : ds.length ≤ 1000) : Ev H0 H σ (tTup ta) (.tuple ds) := fun H1 Q sH k => h H1 _ sH fun vs H2 s2 sds => ⟨by rw [sds.len]; exact sl_small (by omega), fun p hp =>
  k _ _ (s2.trans (same_new hp _)) (.tup (by rw [mix_new ((sH.trans s2).free hp), upd_same]) (sds.same (mix_same (same_new hp _))))⟩
theorem ev_lst (h : EvA H0 H σ ta ds) (hl : ds.length ≤ 1000) : Ev H0 H σ (tLst ta) (.list ds) := fun H1 Q sH k => h H1 _ sH fun vs H2 s2 sds => ⟨by rw [sds.len]; exact sl_small (by omega), fun p hp =>
  k _ _ (s2.trans (same_new hp _)) (.lst (by rw [mix_new ((sH.trans s2).free hp), upd_same]) (sds.same (mix_same (same_new hp _))))⟩
theorem ev_cat (h0 : Same H0 H) (h : Ev H0 H σ t (.tuple ds)) (h' : Ev H0 H σ u (.tuple es)) (hl : ds.length ≤ 1000) (hl2 : es.length ≤ 1000) : Ev H0 H σ (tOp (rCatA K) t u) (.tuple (ds ++ es)) := fun H1 Q sH k => h H1 _ sH fun v H2 s2 sd => h' H2 _ (sH.trans s2) fun w H3 s3 sd' => by
  obtain ⟨a, xs, rfl, ha, hs⟩ := sd_tup (sd.same (mix_same s3))
  obtain ⟨b, ys, rfl, hb, ht⟩ := sd_tup sd'
  have up := mix_up (H2 := H3) h0 (sH.trans (s2.trans s3))
  refine ⟨a, b, xs, ys, rfl, rfl, SqT.of (up _ _ ha), SqT.of (up _ _ hb), by rw [hs.len, ht.len]; exact sl_small (by omega), fun z => ?_, fun _ z => ?_, fun _ _ p hp => ?_⟩
  · subst z
    cases hs
    exact k _ _ (s2.trans s3) (.tup hb ht)
  · subst z
    cases ht
    rw [List.append_nil] at k
    exact k _ _ (s2.trans s3) (.tup ha hs)
  · exact k _ _ ((s2.trans s3).trans (same_new hp _)) (.tup (by rw [mix_new ((sH.trans (s2.trans s3)).free hp), upd_same]) ((hs.app ht).same (mix_same (same_new hp _))))
theorem ev_rev (h0 : Same H0 H) (h : Ev H0 H σ t (.tuple ds)) : Ev H0 H σ (tRevT K t) (.tuple ds.reverse) := fun H1 Q sH k => h H1 _ sH fun v H2 s2 sd => by
  obtain ⟨a, xs, rfl, ha, hs⟩ := sd_tup sd
  exact ⟨a, xs, rfl, SqT.of (mix_up h0 (sH.trans s2) _ _ ha), fun p hp => k _ _ (s2.trans (same_new hp _)) (.tup (by rw [mix_new ((sH.trans s2).free hp), upd_same]) (hs.rev.same (mix_same (same_new hp _))))⟩
theorem ev_one (h0 : Same H0 H) (h : Ev H0 H σ t (.tuple ds)) : Ev H0 H σ (tSl (rSlA K) t tNoPart (tPart (tC (.int 1)))) (.tuple (ds.take 1)) := fun H1 Q sH k => h H1 _ sH fun v H2 s2 sd => by
  obtain ⟨a, xs, rfl, ha, hs⟩ := sd_tup sd
  have c3 : HT.sIx xs.length xs.length (some 1) = min 1 xs.length := HT.sIx_nat _ _ 1
  have cut : cutV xs none (some 1) = xs.take 1 := by
    unfold cutV
    rw [HT.sIx_none, c3]
    by_cases z : xs = []
    · rw [z]; rfl
    · have : 0 < xs.length := List.length_pos_iff.mpr z
      rw [show min 1 xs.length - 0 = 1 by omega]
      rfl
  refine ⟨1, rfl, a, xs, rfl, SqT.of (mix_up h0 (sH.trans s2) _ _ ha), fun z => ?_, fun _ p hp => ?_⟩
  · rw [c3] at z
    have tk2 : ds.take 1 = ds := List.take_of_length_le (by rw [← hs.len]; omega)
    rw [tk2] at k
    exact k _ _ s2 (.tup ha hs)
  · exact k _ _ (s2.trans (same_new hp _)) (.tup (by rw [mix_new ((sH.trans s2).free hp), upd_same, cut]) ((hs.take 1).same (mix_same (same_new hp _))))
def rListOf (K : PySem.W.Frag) : List V → Hp → VK → Prop := fun xs H Q => ∃ p ys, xs = [.ref p] ∧ (SqL K H p ys ∨ SqT K H p ys) ∧ ∀ l, H l = none → Q (.ref l) (upd H l (.lst ys))
theorem ev_list (h0 : Same H0 H) (h : Ev H0 H σ t (.tuple ds)) : Ev H0 H σ (tCB (rListOf K) (tCons t tNil)) (.list ds) := fun H1 Q sH k => h H1 _ sH fun v H2 s2 sd => by
  obtain ⟨a, xs, rfl, ha, hs⟩ := sd_tup sd
  exact ⟨a, xs, rfl, .inr (SqT.of (mix_up h0 (sH.trans s2) _ _ ha)), fun p hp => k _ _ (s2.trans (same_new hp _)) (.lst (by rw [mix_new ((sH.trans s2).free hp), upd_same]) (hs.same (mix_same (same_new hp _))))⟩
end
/-- tuples and lists of pairs and the like -/
theorem rf_near {es : List PyData} (h : ∀ e ∈ es, Fine 3 20000 e) (hl : es.length ≤ 20) : RF 2 (.tuple es) ∧ RF 2 (.list es) := by
  have p : rb 2 = 819148 := by decide
  have : es.length * (20000 + 2) ≤ 20 * (20000 + 2) := Nat.mul_le_mul_right _ hl
  exact ⟨⟨(fine_tup h).mono (by omega) (by omega), lens_tup (by omega)⟩, ⟨(fine_list h).mono (by omega) (by omega), lens_of (fun _ e => nomatch e) fun _ e => nomatch e⟩⟩
theorem bs_poly {p : List IQ} (h : Good 12 (10 ^ 12) p) (hl : p.length ≤ 8) : Bs 2 (polyD p) := by
  refine ⟨_, rfl, by rw [List.length_map]; omega, fun e he => ?_⟩
  obtain ⟨x, hx, rfl⟩ := List.mem_map.mp he
  obtain ⟨h1, h2, h3, h4⟩ := h.all x hx
  have : (10 : Int) ^ 12 = 1000000000000 := by decide
  refine ⟨_, rfl, by show 2 ≤ 10; decide, fun e he => ?_⟩
  simp only [List.mem_cons, List.not_mem_nil, or_false] at he
  rcases he with rfl | rfl
  · exact ⟨_, rfl, by omega⟩
  · exact ⟨_, rfl, by omega⟩
end Zk

set_option maxHeartbeats 300000
/-! Kf: _law_near. -/
namespace Zk
open PySem PySem.Spec PyProof.Rows L2 GxR
def spNear : Sp := fun vs H Q _ => ∃ (H0 : Hp) (dk lf a : Addr) (B : Nat) (p : List IQ), vs = [.ref dk, .ref a] ∧ DeckAt H0 H dk lf B ∧ B + 400 < 2 ^ 59 ∧ PolyAt H0 a p ∧ Good 12 (10 ^ 12) p ∧ p.length ≤ 8 ∧
  ∀ v' d' H0' H', Grow dk lf H0 H H0' H' → DeckAt H0' H' dk lf (B + 400) → Sd H0' v' d' → RF 2 d' → Q v' H'
/-- the parts of what is near a polynomial -/
theorem fine_at1 {e : PyData} (h : (∃ i : Int, e = .int i ∧ i.natAbs < 2 ^ 50) ∨ (∃ b, e = .bool b) ∨ e = .none ∨ e = .str "0") : Fine 0 1921 e := by
  rcases h with ⟨i, rfl, h⟩ | ⟨b, rfl⟩ | rfl | rfl
  · exact fine_int (log_small (by omega))
  · exact (fine_bool b).mono (Nat.le_refl _) (by omega)
  · exact fine_none.mono (Nat.le_refl _) (by omega)
  · exact (fine_str (x := "0") (by decide +kernel)).mono (Nat.le_refl _) (by decide +kernel)
theorem fine_at2 {es : List PyData} (h : ∀ e ∈ es, Fine 0 1921 e) (hl : es.length ≤ 3) : Fine 3 20000 (.tuple es) ∧ Fine 3 20000 (.list es) := by
  have : es.length * (1921 + 2) ≤ 3 * (1921 + 2) := Nat.mul_le_mul_right _ hl
  exact ⟨(fine_tup h).mono (by omega) (by omega), (fine_list h).mono (by omega) (by omega)⟩
theorem asg_lst {H0 Hb H : Hp} {σ : List (Option V)} {ta : TA} {ds : List PyData} {g : V → List (Option V) → Hp → (List (Option V) → Hp → Prop) → Prop} {ts : TS} {D : Ends} (e : EvA H0 Hb σ ta ds) (s : Same Hb H)
    (k : ∀ vs H1, Same H H1 → SdL (mix H0 Hb H1) vs ds → vs.length ≤ sizeLine ∧ ∀ p, H1 p = none → g (.ref p) σ (upd H1 p (.lst vs)) fun σ H => ts D σ H) : tSeq (tAsg (tLst ta) g) ts D σ H := e H _ s k
theorem ext_lst {K : PySem.W.Frag} {H0 Hb H : Hp} {σ : List (Option V)} {ta : TA} {ds : List PyData} {i : Nat} {l : Addr} {xs : List V} {ts : TS} {D : Ends} (hi : σ[i]? = some (some (.ref l))) (hl : SqL K H l xs) (e : EvA H0 Hb σ ta ds) (s : Same Hb H)
    (k : ∀ vs H1, Same H H1 → SdL (mix H0 Hb H1) vs ds → vs.length ≤ sizeLine ∧ ∀ p, H1 p = none → rExtend (.ref l) [.ref p] (upd H1 p (.lst vs)) fun _ H => ts D σ H) : tSeq (tDrop (tBM K "list" rExtend (tVar i) (tCons (tLst ta) tNil))) ts D σ H := ⟨_, hi, .inl ⟨rfl, _, hl⟩, e H _ s k⟩
section
variable {P : Program} {w : World} {K : PySem.W.Frag} {mg : Str → Option Value} {base : Heap} {f : Addr} {fd : FuncData}
theorem scNear : FnScope ["deck", "poly", "some"] ["deck", "poly"] (defScope sNear) := ⟨rfl, rfl, rfl, by decide +kernel, rfl, by decide +kernel, by decide +kernel⟩
theorem ok_near (F : Fun K "_law_near" "_law_near" sNear f fd) (T : Blt2 mg) (C1 : Call1 P w K mg base "_law_draw" 1 ["deck", "many"] spDraw) (C2 : Call1 P w K mg base "_law_pick" 2 ["deck", "some"] spPick)
    (C3 : Call1 P w K mg base "_law_spoilt" 11 ["deck", "thing"] (spSpo 2)) : FnOk P w K mg base CX0 12 f fd ["deck", "poly"] spNear := by
  obtain ⟨f1, d1, G1, b1, k1, m1⟩ := C1.ex
  obtain ⟨f2, d2, G2, b2, k2, m2⟩ := C2.ex
  obtain ⟨f3, d3, G3, b3, k3, m3⟩ := C3.ex
  refine F.ok scNear (fun vs H Q E h => ?_) (fun cdv A outer s H vs Q E hr h => ?_)
  · obtain ⟨H0, dk, lf, a, B, p, rfl, _⟩ := h
    rfl
  obtain ⟨H0, dk, lf, a, B, p, rfl, hD, hB, hp, hg, hl, q⟩ := h
  have hr1 : Room 1 _ := hr.mono (by omega)
  have hr2 : Room 2 _ := hr.mono (by omega)
  have hr11 : Room 11 _ := hr.mono (by omega)
  refine ⟨_, pss_cons (ps_set (i := 2) scNear.nd rfl (Or.inl rfl) (pe_lst (pa_cons (pe_revT (pv 1)) (pa_cons (pe_op op_catA (pv 1) (pe_slice sl_tupA (pv 1) po_none (po_some pe_int))) (pa_cons (pe_callTy call_list_of (by rfl) T.list (by decide +kernel) (pa_cons (pv 1) pa_nil))
      (pa_cons (pe_op op_catA (pv 1) (pe_tup (pa_cons (pe_tup (pa_cons pe_int (pa_cons pe_int pa_nil))) pa_nil)))
      (pa_cons (pe_op op_catA (pe_tup (pa_cons (pe_tup (pa_cons (pe_un un_neg pe_int) (pa_cons pe_int pa_nil))) pa_nil)) (pv 1))
      (pa_cons (pe_op op_catA (pv 1) (pe_tup (pa_cons (pe_tup (pa_cons pe_bl (pa_cons pe_int pa_nil))) pa_nil)))
      (pa_cons (pe_tup (pa_cons (pe_tup (pa_cons pe_int (pa_cons pe_int (pa_cons pe_int pa_nil)))) pa_nil))
      (pa_cons (pe_tup (pa_cons (pe_tup (pa_cons pe_int (pa_cons pe_int pa_nil))) (pa_cons (pe_tup (pa_cons pe_int (pa_cons pe_int pa_nil))) pa_nil)))
      (pa_cons (pe_tup (pa_cons (pe_tup (pa_cons pe_int (pa_cons pe_int pa_nil))) (pa_cons (pe_tup (pa_cons pe_int (pa_cons pe_int pa_nil))) pa_nil))) pa_nil)))))))))))
    (pss_cons (ps_expr (pe_bm PySem.F.plainAttrs_list PySem.F.slot_list_extend PySem.F.type_list_extend mt_extend (pv 2) (pa_cons (pe_lst
      (pa_cons (pe_op op_catA (pv 1) (pe_tup (pa_cons (pe_tup (pa_cons pe_int (pa_cons pe_bl pa_nil))) pa_nil)))
      (pa_cons (pe_tup (pa_cons (pe_tup (pa_cons pe_int pa_nil)) pa_nil))
      (pa_cons (pe_tup (pa_cons (pe_lst (pa_cons pe_int (pa_cons pe_int pa_nil))) pa_nil))
      (pa_cons (pe_tup (pa_cons (pe_tup (pa_cons pe_str (pa_cons pe_int pa_nil))) pa_nil))
      (pa_cons (pe_tup (pa_cons (pe_tup (pa_cons pe_int (pa_cons pe_non pa_nil))) pa_nil))
      (pa_cons (pe_tup (pa_cons pe_int (pa_cons pe_int pa_nil)))
      (pa_cons (pe_op op_catA (pv 1) (pe_tup (pa_cons (pe_tup (pa_cons pe_int (pa_cons (pe_un un_neg pe_int) pa_nil))) pa_nil)))
      (pa_cons (pe_tup (pa_cons (pv 1) pa_nil)) pa_nil))))))))) pa_nil)))
    (pss_one (ps_ret (pe_ifExp (pt_cmpR op_eq (pe_call G1 hr1 rfl m1 k1 b1 .nil pass0 (pa_cons (pv 0) (pa_cons pe_int pa_nil))) pe_int (nomark _))
      (pe_call G2 hr2 rfl m2 k2 b2 .nil pass0 (pa_cons (pv 0) (pa_cons (pv 2) pa_nil)))
      (pe_call G3 hr11 rfl m3 k3 b3 .nil pass0 (pa_cons (pv 0) (pa_cons (pv 1) pa_nil))))))), ?_⟩
  have sp0 := hp.sd
  have lp : (p.map pairD).length ≤ 8 := by rw [List.length_map]; exact hl
  have bp := bs_poly hg hl
  -- the first nine
  have var : ∀ {H0' H' : Hp} {σ : List (Option V)}, Same H0' H' → Same H0 H0' → σ[1]? = some (some (.ref a)) → Ev H0' H' σ (tVar 1) (.tuple (p.map pairD)) := fun s s0 e => ev_var s e (sp0.same s0)
  have pr : ∀ {H0' H' : Hp} {σ : List (Option V)} {t1 t2 : TE} {d1 d2 : PyData}, Ev H0' H' σ t1 d1 → Ev H0' H' σ t2 d2 → Ev H0' H' σ (tTup (tCons t1 (tCons t2 tNil))) (.tuple [d1, d2]) := fun a b => ev_tup (eva_cons a (eva_cons b eva_nil)) (by show 2 ≤ 1000; decide)
  have one : ∀ {H0' H' : Hp} {σ : List (Option V)} {t1 : TE} {d1 : PyData}, Ev H0' H' σ t1 d1 → Ev H0' H' σ (tTup (tCons t1 tNil)) (.tuple [d1]) := fun a => ev_tup (eva_cons a eva_nil) (by show 1 ≤ 1000; decide)
  have v0 := var (σ := [some (.ref dk), some (.ref a), none]) hD.same (Same.refl _) rfl
  have s0 := hD.same
  have e1 := eva_cons (ev_rev (K := K) s0 v0) (eva_cons (ev_cat (K := K) s0 v0 (ev_one (K := K) s0 v0) (by omega) (by rw [List.length_take]; omega)) (eva_cons (ev_list (K := K) s0 v0) (eva_cons (ev_cat (K := K) s0 v0 (one (pr (ev_int 13) (ev_int 0))) (by omega) (by show 1 ≤ 1000; decide))
      (eva_cons (ev_cat (K := K) s0 (one (pr (ev_neg 1) (ev_int 1))) v0 (by show 1 ≤ 1000; decide) (by omega)) (eva_cons (ev_cat (K := K) s0 v0 (one (pr (ev_bl true) (ev_int 2))) (by omega) (by show 1 ≤ 1000; decide))
      (eva_cons (one (ev_tup (eva_cons (ev_int 0) (eva_cons (ev_int 1) (eva_cons (ev_int 1) eva_nil))) (by show 3 ≤ 1000; decide))) (eva_cons (pr (pr (ev_int 3) (ev_int 2)) (pr (ev_int 2) (ev_int 1))) (eva_cons (pr (pr (ev_int 3) (ev_int 2)) (pr (ev_int 3) (ev_int 1))) eva_nil))))))))
  refine asg_lst e1 (Same.refl _) fun vs1 H1 s1 sd1 => ?_
  have ll1 : vs1.length = 9 := sd1.len
  refine ⟨by rw [ll1]; decide, fun l hl1 => ?_⟩
  obtain ⟨g1, D1⟩ := mix_deck hD s1
  have hlH : H l = none := s1.free hl1
  have D1' := D1.drop hl1 (o := .lst vs1)
  have gA := g1.trans hD D1 (Grow.drop hl1 (o := .lst vs1))
  have v1 := var (σ := [some (.ref dk), some (.ref a), some (.ref l)]) D1'.same g1.same rfl
  have s0' := D1'.same
  have e2 := eva_cons (ev_cat (K := K) s0' v1 (one (pr (ev_int 12) (ev_bl true))) (by omega) (by show 1 ≤ 1000; decide)) (eva_cons (one (one (ev_int 0))) (eva_cons (one (ev_lst (eva_cons (ev_int 0) (eva_cons (ev_int 1) eva_nil)) (by show 2 ≤ 1000; decide))) (eva_cons (one (pr (ev_str "0") (ev_int 1)))
      (eva_cons (one (pr (ev_int 0) ev_non)) (eva_cons (pr (ev_int 0) (ev_int 1)) (eva_cons (ev_cat (K := K) s0' v1 (one (pr (ev_int 13) (ev_neg 1))) (by omega) (by show 1 ≤ 1000; decide)) (eva_cons (one v1) eva_nil)))))))
  refine ext_lst (i := 2) (l := l) rfl (SqL.of upd_same) e2 (Same.refl _) fun vs2 H2 s2 sd2 => ?_
  have ll2 : vs2.length = 8 := sd2.len
  refine ⟨by rw [ll2]; decide, fun l2 hl2 => ?_⟩
  have s3 := s2.trans (same_new hl2 (.lst vs2))
  obtain ⟨g3, D3⟩ := mix_deck D1' s3
  have el : upd H2 l2 (.lst vs2) l = some (.lst vs1) := s3 _ _ upd_same
  have fl : mix (mix H0 H H1) (upd H1 l (.lst vs1)) (upd H2 l2 (.lst vs2)) l = none := (mix_old upd_same).trans (D1.free hl1)
  refine ⟨l, l2, vs1, vs2, rfl, rfl, el, upd_same, by rw [ll1, ll2]; decide, ?_⟩
  have gB := (gA.trans hD D1' g3).upd' hlH (o := .lst (vs1 ++ vs2))
  have D4 := D3.change fl (D1.ned hl1) (D1.nel hl1) (o := .lst (vs1 ++ vs2))
  have sdA := (sd1.same g3.same).app (sd2.same (mix_same (same_new hl2 (.lst vs2))))
  generalize mix (mix H0 H H1) (upd H1 l (.lst vs1)) (upd H2 l2 (.lst vs2)) = H0a at gB D4 sdA fl
  generalize hH4 : upd (upd H2 l2 (.lst vs2)) l (.lst (vs1 ++ vs2)) = H4 at gB D4
  have el4 : H4 l = some (.lst (vs1 ++ vs2)) := by rw [← hH4, upd_same]
  refine ⟨_, rfl, H0a, dk, lf, B, 2, rfl, D4, by omega, by decide, by decide, fun z H5 z0 z1 g5 D5 => ⟨rfl, _, rfl, ?_⟩⟩
  have gC := gB.trans hD D4 g5
  have ndl := D1.ned hl1
  have nll := D1.nel hl1
  refine ite2 (fun _ => ?_) (fun _ => ?_)
  · refine ⟨_, rfl, _, rfl, H0a, dk, lf, l, B + 1, vs1 ++ vs2, rfl, D5, by omega, g5.frame _ _ ndl.symm nll.symm el4, ndl.symm, nll.symm, by rw [List.length_append]; omega, by rw [List.length_append]; omega, fun u H6 hu g6 D6 => ?_⟩
    obtain ⟨i, hi⟩ := List.mem_iff_getElem?.mp hu
    obtain ⟨d, hd, sd⟩ := sdA.get hi
    refine q u d H0a H6 (gC.trans hD D5 g6) (D6.mono (by omega)) sd ?_
    have hd := List.mem_of_getElem? hd
    have pp : ∀ e ∈ p.map pairD, Fine 3 20000 e := fun e he => by
      obtain ⟨ds', e1, _, hb⟩ := bp
      cases e1
      have bl1 : bl 1 = 19232 := by decide
      exact (bs_fine (n := 1) (hb e he)).mono (by omega) (by omega)
    have ai : ∀ i : Int, i.natAbs < 2 ^ 50 → Fine 0 1921 (.int i) := fun i h => fine_at1 (.inl ⟨i, rfl, h⟩)
    have two : ∀ {x y : PyData}, Fine 0 1921 x → Fine 0 1921 y → Fine 3 20000 (.tuple [x, y]) := fun hx hy => (fine_at2 (fun e he => by
      simp only [List.mem_cons, List.not_mem_nil, or_false] at he
      rcases he with rfl | rfl
      · exact hx
      · exact hy) (by show 2 ≤ 3; decide)).1
    have lone : ∀ {x : PyData}, Fine 3 20000 x → RF 2 (.tuple [x]) := fun hx => (rf_near (fun e he => by rw [List.mem_singleton.mp he]; exact hx) (by show 1 ≤ 20; decide)).1
    have app : ∀ {x : PyData}, Fine 3 20000 x → RF 2 (.tuple (p.map pairD ++ [x])) := fun hx => (rf_near (fun e he => by
      rcases List.mem_append.mp he with he | he
      · exact pp e he
      · rw [List.mem_singleton.mp he]; exact hx) (by rw [List.length_append]; show _ + 1 ≤ 20; omega)).1
    have both : ∀ {x y : PyData}, Fine 3 20000 x → Fine 3 20000 y → RF 2 (.tuple [x, y]) := fun hx hy => (rf_near (fun e he => by
      simp only [List.mem_cons, List.not_mem_nil, or_false] at he
      rcases he with rfl | rfl
      · exact hx
      · exact hy) (by show 2 ≤ 20; decide)).1
    have a0 := ai 0 (by decide)
    have a1 := ai 1 (by decide)
    have a2 := ai 2 (by decide)
    have a3 := ai 3 (by decide)
    have at0 : ∀ {x : PyData}, Fine 0 1921 x → Fine 3 20000 x := fun h => h.mono (by omega) (by omega)
    simp only [List.cons_append, List.nil_append, List.mem_cons, List.not_mem_nil, or_false] at hd
    rcases hd with rfl | rfl | rfl | rfl | rfl | rfl | rfl | rfl | rfl | rfl | rfl | rfl | rfl | rfl | rfl | rfl | rfl
    · exact (rf_near (fun e he => pp e (List.mem_reverse.mp he)) (by rw [List.length_reverse]; omega)).1
    · exact (rf_near (fun e he => by
        rcases List.mem_append.mp he with he | he
        · exact pp e he
        · exact pp e (List.mem_of_mem_take he)) (by rw [List.length_append, List.length_take]; omega)).1
    · exact (rf_near pp (by omega)).2
    · exact app (two (ai 13 (by decide)) a0)
    · exact (rf_near (fun e he => by
        rcases List.mem_cons.mp he with rfl | he
        · exact two (ai (-1) (by decide)) a1
        · exact pp e he) (by show _ + 1 ≤ 20; omega)).1
    · exact app (two (fine_at1 (.inr (.inl ⟨_, rfl⟩))) a2)
    · exact lone (fine_at2 (fun e he => by
        simp only [List.mem_cons, List.not_mem_nil, or_false] at he
        rcases he with rfl | rfl | rfl
        · exact a0
        · exact a1
        · exact a1) (by show 3 ≤ 3; decide)).1
    · exact both (two a3 a2) (two a2 a1)
    · exact both (two a3 a2) (two a3 a1)
    · exact app (two (ai 12 (by decide)) (fine_at1 (.inr (.inl ⟨_, rfl⟩))))
    · exact lone (fine_at2 (fun e he => by rw [List.mem_singleton.mp he]; exact a0) (by show 1 ≤ 3; decide)).1
    · exact lone (fine_at2 (fun e he => by
        simp only [List.mem_cons, List.not_mem_nil, or_false] at he
        rcases he with rfl | rfl
        · exact a0
        · exact a1) (by show 2 ≤ 3; decide)).2
    · exact lone (two (fine_at1 (.inr (.inr (.inr rfl)))) a1)
    · exact lone (two a0 (fine_at1 (.inr (.inr (.inl rfl)))))
    · exact both (at0 a0) (at0 a1)
    · exact app (two (ai 13 (by decide)) (ai (-1) (by decide)))
    · exact (rf_one bp).1
  · refine ⟨_, rfl, _, rfl, H0a, dk, lf, B + 1, 2, .ref a, polyD p, rfl, Nat.le_refl _, D5, by omega, sp0.same gC.same, bp, fun v' d' H0' H6 g6 D6 sd6 rf6 => ?_⟩
    exact q v' d' H0' H6 (gC.trans hD D5 g6) (D6.mono (by omega)) sd6 rf6
end
end Zk

set_option maxHeartbeats 1000000
/-! Kg: _law_drawn_string. -/
namespace Zk
open PySem PySem.Spec PyProof.Rows L2 GxR
abbrev sDStr : Stmt := top 35
def Sml (x : Str) : Prop := ∀ c ∈ x.cps.toList, c < 16 ^ 8
theorem sml_app {x y : Str} (h : Sml x) (k : Sml y) : Sml (x ++ y) := fun c hc => by
  rw [Str.cps_append, Array.toList_append] at hc
  rcases List.mem_append.mp hc with hc | hc
  · exact h c hc
  · exact k c hc
theorem sml_join {y : Str} (hy : Sml y) : ∀ {l : List Str}, (∀ x ∈ l, Sml x) → Sml (Str.join y l)
  | [], _ => fun c hc => by simp [Str.join, Str.empty] at hc
  | [x], h => h x List.mem_cons_self
  | x :: z :: r, h => by
    show Sml (x ++ y ++ Str.join y (z :: r))
    exact sml_app (sml_app (h x List.mem_cons_self) hy) (sml_join hy fun u hu => h u (List.mem_cons_of_mem _ hu))
theorem sml_cut {z : Str} {lo hi : Option Int} (h : Sml z) : Sml (cutS z lo hi) := fun c hc => by
  refine h c ?_
  have hc : c ∈ ((z.cps.toList.drop (HT.sIx z.length 0 lo)).take (HT.sIx z.length z.length hi - HT.sIx z.length 0 lo)) := by simpa [cutS] using hc
  exact List.mem_of_mem_drop (List.mem_of_mem_take hc)
def abn : List Str := ["a", "b", "n", "z", "m", "q"]
def spDStr : Sp := fun vs H Q _ => ∃ (H0 : Hp) (dk lf : Addr) (B : Nat), vs = [.ref dk] ∧ DeckAt H0 H dk lf B ∧ B + 30 < 2 ^ 59 ∧ ∀ x H0' H', Grow dk lf H0 H H0' H' → DeckAt H0' H' dk lf (B + 30) → x.length ≤ 100 → Sml x → Q (.str x) H'
theorem Grow.free {dk lf p : Addr} {H0 H H0' H' : Hp} {B : Nat} (g : Grow dk lf H0 H H0' H') (D : DeckAt H0' H' dk lf B) (h : H' p = none) : H p = none := by
  cases e : H p with
  | none => rfl
  | some o =>
    by_cases z1 : p = dk
    · exact absurd z1.symm (D.ned h)
    · by_cases z2 : p = lf
      · exact absurd z2.symm (D.nel h)
      · rw [g.frame _ _ z1 z2 e] at h
        cases h
theorem abn_one {y : Str} (h : y ∈ abn) : y.length = 1 ∧ Sml y := by
  simp only [abn, List.mem_cons, List.not_mem_nil, or_false] at h
  have key : ∀ y : Str, (y.cps.toList.all fun c => decide (c < 16 ^ 8)) = true → Sml y := fun y hy c hc => of_decide_eq_true (List.all_eq_true.mp hy c hc)
  rcases h with rfl | rfl | rfl | rfl | rfl | rfl <;> exact ⟨by decide +kernel, key _ (by decide +kernel)⟩
theorem sml_nil : Sml (Str.ofString "") := fun c hc => by
  have e : (Str.ofString "").cps.toList = [] := by decide +kernel
  rw [e] at hc
  exact absurd hc List.not_mem_nil
def put9 : List Str := ["", "", "", "A", "1", " ", "_", "\n", "{"]
theorem put_one {y : Str} (h : y ∈ put9) : y.length ≤ 1 ∧ Sml y := by
  simp only [put9, List.mem_cons, List.not_mem_nil, or_false] at h
  have key : ∀ y : Str, (y.cps.toList.all fun c => decide (c < 16 ^ 8)) = true → Sml y := fun y hy c hc => of_decide_eq_true (List.all_eq_true.mp hy c hc)
  rcases h with rfl | rfl | rfl | rfl | rfl | rfl | rfl | rfl | rfl <;> exact ⟨by decide +kernel, key _ (by decide +kernel)⟩
theorem sum_ones : ∀ {ys : List Str}, (∀ y ∈ ys, y ∈ abn) → (ys.map (·.length)).sum = ys.length
  | [], _ => rfl
  | y :: r, h => by
    rw [List.map_cons, List.sum_cons, sum_ones fun u hu => h u (List.mem_cons_of_mem _ hu), (abn_one (h y List.mem_cons_self)).1, List.length_cons]
    omega
section
variable {P : Program} {w : World} {K : PySem.W.Frag} {mg : Str → Option Value} {base : Heap} {f : Addr} {fd : FuncData}
theorem scDStr : FnScope ["deck", "found", "at", "turn"] ["deck"] (defScope sDStr) := ⟨rfl, rfl, rfl, by decide +kernel, rfl, by decide +kernel, by decide +kernel⟩
theorem ok_dstr (F : Fun K "_law_drawn_string" "_law_drawn_string" sDStr f fd) (T : Blt2 mg) (C1 : Call1 P w K mg base "_law_draw" 1 ["deck", "many"] spDraw) (C2 : Call1 P w K mg base "_law_pick" 2 ["deck", "some"] spPick) : FnOk P w K mg base CX0 3 f fd ["deck"] spDStr := by
  obtain ⟨f1, d1, G1, b1, k1, m1⟩ := C1.ex
  obtain ⟨f2, d2, G2, b2, k2, m2⟩ := C2.ex
  refine F.ok scDStr (fun vs H Q E h => ?_) (fun cdv A outer s H vs Q E hr h => ?_)
  · obtain ⟨H0, dk, lf, B, rfl, _⟩ := h
    rfl
  obtain ⟨H0, dk, lf, B, rfl, hD, hB, q⟩ := h
  have hr1 : Room 1 _ := hr.mono (by omega)
  have hr2 : Room 2 _ := hr.mono (by omega)
  refine ⟨_, pss_cons (ps_set (i := 1) scDStr.nd rfl (Or.inl rfl) (pe_join pe_str (pe_lc (own := [("turn", 3)]) (g := gName 3) (tt := tYes) rfl scDStr.nd (pi_range1 (by rfl) T.range (pa_cons (pe_call G1 hr1 rfl m1 k1 b1 .nil pass0 (pa_cons (pv 0) (pa_cons pe_int pa_nil))) pa_nil))
          (blkOk_by (N := ["deck", "found", "at", "turn"]) (sc := defScope sDStr) (by decide +kernel)) (fun _ _ _ _ _ => pg_name (i := 3) scDStr.nd rfl (Or.inl rfl)) (fun _ _ _ _ _ => pts_nil)
          (fun _ _ _ _ _ => pe_call G2 hr2 rfl m2 k2 b2 .nil pass0 (pa_cons (pv 0) (pa_cons (pe_lst (pa_cons pe_str (pa_cons pe_str (pa_cons pe_str (pa_cons pe_str (pa_cons pe_str (pa_cons pe_str pa_nil))))))) pa_nil))))))
    (pss_cons (ps_set (i := 2) scDStr.nd rfl (Or.inl rfl) (pe_call G1 hr1 rfl m1 k1 b1 .nil pass0 (pa_cons (pv 0) (pa_cons (pe_op op_add (pe_callB call_len_str (by rfl) T.len PySem.boot_len (pa_cons (pv 1) pa_nil)) pe_int) pa_nil))))
    (pss_one (ps_ret (pe_op op_add_str (pe_op op_add_str (pe_slice sl_str (pv 1) po_none (po_some (pv 2))) (pe_call G2 hr2 rfl m2 k2 b2 .nil pass0 (pa_cons (pv 0) (pa_cons (pe_lst (pa_cons pe_str (pa_cons pe_str (pa_cons pe_str (pa_cons pe_str (pa_cons pe_str (pa_cons pe_str (pa_cons pe_str (pa_cons pe_str (pa_cons pe_str pa_nil)))))))))) pa_nil))))
      (pe_slice sl_str (pv 1) (po_some (pv 2)) po_none))))), ?_⟩
  refine ⟨⟨_, rfl⟩, _, rfl, H0, dk, lf, B, 9, rfl, hD, by omega, by decide, by decide, fun r H1 r0 r1 g1 D1 => ⟨r, rfl, by omega, by omega, fun Dl hDl => ?_⟩⟩
  have hDlH : H Dl = none := g1.free D1 hDl
  refine lc_range (lo := 0) (n := r.toNat) (fun i H' => ∃ ys : List Str, Grow dk lf H0 H H0 H' ∧ DeckAt H0 H' dk lf (B + 1 + i) ∧ H' Dl = some (.lst (ys.map V.str)) ∧ ys.length = i ∧ ∀ y ∈ ys, y ∈ abn) ⟨[], g1.upd' hDlH, D1.drop hDl, upd_same, rfl, fun _ h => absurd h List.not_mem_nil⟩ ?_ ?_
  · rintro i H' hi ⟨ys, g, D, eD, hl, hy⟩
    refine ⟨rfl, ?_⟩
    dsimp only [tYes]
    refine iteT ?_
    refine ⟨_, rfl, (by show 6 ≤ sizeLine; decide), fun l hl0 => ?_⟩
    have gl := Grow.drop (dk := dk) (lf := lf) (H0 := H0) hl0 (o := .lst (abn.map V.str))
    have Dx := D.drop hl0 (o := .lst (abn.map V.str))
    refine ⟨H0, dk, lf, l, B + 1 + i, abn.map V.str, rfl, Dx, by omega, upd_same, (D.ned hl0).symm, (D.nel hl0).symm, by decide, by decide, fun v H2 hv g2 D2 => ?_⟩
    obtain ⟨y, hya, rfl⟩ := List.mem_map.mp hv
    have ndl : Dl ≠ l := ne_of_none eD hl0
    have eD2 : H2 Dl = some (.lst (ys.map V.str)) := g2.frame _ _ (D1.ned hDl).symm (D1.nel hDl).symm ((upd_ne ndl).trans eD)
    refine ⟨_, eD2, sl_lt (by rw [List.length_map]; omega), ys ++ [y], ((g.trans hD D gl).trans hD Dx g2).upd' hDlH, (D2.change (hD.free hDlH) (D1.ned hDl) (D1.nel hDl)).mono (by omega), by rw [upd_same, List.map_append]; rfl, by rw [List.length_append, hl]; rfl, fun u hu => ?_⟩
    rcases List.mem_append.mp hu with hu | hu
    · exact hy u hu
    · rw [List.mem_singleton.mp hu]; exact hya
  · rintro H' ⟨ys, g, D, eD, hl, hy⟩
    have sm := sum_ones hy
    refine ⟨_, Dl, ys, rfl, rfl, .inl (SqL.of eD), by rw [sm, show (Str.ofString "").length = 0 from rfl]; omega, ?_⟩
    have jl : (Txt.join (Str.ofString "") ys).length = ys.length := PySem.W.KT.join_ones ys fun a ha => (abn_one (hy a ha)).1
    have js : Sml (Txt.join (Str.ofString "") ys) := by
      show Sml (Builtin.Str.glued (Str.ofString "") ys)
      rw [StrLaws.glued_eq_join]
      exact sml_join sml_nil fun x hx => (abn_one (hy x hx)).2
    generalize Txt.join (Str.ofString "") ys = z at jl js
    refine ⟨_, rfl, _, rfl, z, rfl, sl_small (by omega), _, _, rfl, rfl, H0, dk, lf, B + 1 + r.toNat, (z.length : Int) + 1, rfl, D, by omega, by omega, by omega, fun at' H2 a0 a1 g2 D2 => ?_⟩
    refine ⟨_, rfl, _, rfl, _, rfl, z, rfl, sl_small (by omega), ?_⟩
    refine ⟨_, rfl, (by show 9 ≤ sizeLine; decide), fun l hl0 => ?_⟩
    have gl := Grow.drop (dk := dk) (lf := lf) (H0 := H0) hl0 (o := .lst (put9.map V.str))
    have Dx := D2.drop hl0 (o := .lst (put9.map V.str))
    refine ⟨H0, dk, lf, l, B + 1 + r.toNat + 1, put9.map V.str, rfl, Dx, by omega, upd_same, (D2.ned hl0).symm, (D2.nel hl0).symm, by decide, by decide, fun v H3 hv g3 D3 => ?_⟩
    obtain ⟨y, hya, rfl⟩ := List.mem_map.mp hv
    obtain ⟨y1, y2⟩ := put_one hya
    have c1 := cutS_length z none (some at')
    have c2 := cutS_length z (some at') none
    refine ⟨_, _, rfl, rfl, sl_small (by omega), _, rfl, _, rfl, _, rfl, z, rfl, sl_small (by omega), _, _, rfl, rfl, sl_small (by rw [Str.length_append]; omega), ?_⟩
    refine q _ H0 H3 (((g.trans hD D g2).trans hD D2 gl).trans hD Dx g3) (D3.mono (by omega)) ?_ (sml_app (sml_app (sml_cut js) y2) (sml_cut js))
    rw [Str.length_append, Str.length_append]
    omega
end
end Zk

set_option maxHeartbeats 1000000
set_option exponentiation.threshold 1000
/-! K0x: bounds of what the law reckons. -/
namespace Zk
open PySem PySem.Spec PyProof.Rows L2 GxR
theorem lin_le {f : Int → Int} {M : Nat} : ∀ {ps : List IQ}, (∀ x ∈ ps, (x.2 * f x.1).natAbs ≤ M) → (lin f ps).natAbs ≤ ps.length * M
  | [], _ => by simp [lin]
  | x :: r, h => by
    have h1 := h x List.mem_cons_self
    have h2 := lin_le fun y hy => h y (List.mem_cons_of_mem _ hy)
    rw [lin_cons, List.length_cons, Nat.succ_mul]
    omega
theorem eval_small {p : List IQ} {k : Nat} (h : ∀ x ∈ p, 0 ≤ x.1 ∧ x.1 ≤ 12 ∧ x.2.natAbs < 2 ^ 41) (hl : p.length ≤ 100) (hk : k ≤ 1000000) : (evalP p k).natAbs < 2 ^ 450 := by
  have h1 : (evalP p k).natAbs ≤ p.length * 2 ^ 441 := lin_le fun x hx => by
    obtain ⟨h1, h2, h3⟩ := h x hx
    exact Nat.le_of_lt (wide_lt h3 (pow_small (a := x.1.toNat) hk (by omega)))
  have h2 : p.length * 2 ^ 441 ≤ 100 * 2 ^ 441 := Nat.mul_le_mul_right _ hl
  have h3 : 100 * 2 ^ 441 < 2 ^ 450 := by decide
  omega
theorem canon_coef {ps ys : List IQ} {M : Nat} (h : Canon ps ys) (hp : ∀ x ∈ ps, x.2.natAbs ≤ M) : ∀ x ∈ ys, x.2.natAbs ≤ ps.length * M := fun x hx => by
  have e : lin (at1 x.1) ys = x.2 := lin_at (asc_nodup h.2) (show (x.1, x.2) ∈ ys from hx)
  rw [canon_lin _ h] at e
  rw [← e]
  refine lin_le fun y hy => ?_
  have := hp y hy
  unfold at1
  split <;> simp <;> omega
theorem log_mid {i : Int} (h : i.natAbs < 2 ^ 900) : i.natAbs.log2 < 1920 := by
  by_cases z : i.natAbs = 0
  · rw [z]; decide
  · exact Nat.lt_of_lt_of_le ((Nat.log2_lt z).mpr h) (by decide)
theorem fine_pairs {ys : List IQ} (h : ∀ x ∈ ys, x.1.natAbs < 2 ^ 900 ∧ x.2.natAbs < 2 ^ 900) (hl : ys.length ≤ 50) : Fine 2 200000 (polyD ys) := by
  have hp : ∀ e ∈ ys.map pairD, Fine 1 3850 e := fun e he => by
    obtain ⟨x, hx, rfl⟩ := List.mem_map.mp he
    obtain ⟨h1, h2⟩ := h x hx
    refine (fine_tup (a := 0) (b := 1921) fun e he => ?_).mono (Nat.le_refl _) (by show 2 * (1921 + 2) + 2 ≤ 3850; decide)
    simp only [List.mem_cons, List.not_mem_nil, or_false] at he
    rcases he with rfl | rfl
    · exact fine_int (log_mid h1)
    · exact fine_int (log_mid h2)
  refine (fine_tup hp).mono (Nat.le_refl _) ?_
  rw [List.length_map]
  have : ys.length * (3850 + 2) ≤ 50 * (3850 + 2) := Nat.mul_le_mul_right _ hl
  omega
theorem fine_two {d : PyData} (h : Fine 2 200000 d) : Fine 3 500000 (.tuple [d, d]) := (fine_tup (a := 2) (b := 200000) fun e he => by
  simp only [List.mem_cons, List.not_mem_nil, or_false] at he
  rcases he with rfl | rfl <;> exact h).mono (Nat.le_refl _) (by show 2 * (200000 + 2) + 2 ≤ 500000; decide)
theorem fine_ints {i j : Int} (hi : i.natAbs < 2 ^ 900) (hj : j.natAbs < 2 ^ 900) : Fine 3 500000 (.tuple [.int i, .int j]) := (fine_tup (a := 0) (b := 1921) fun e he => by
  simp only [List.mem_cons, List.not_mem_nil, or_false] at he
  rcases he with rfl | rfl
  · exact fine_int (log_mid hi)
  · exact fine_int (log_mid hj)).mono (by omega) (by show 2 * (1921 + 2) + 2 ≤ 500000; decide)
/-- what is known of a sum or a product that is low -/
theorem low_good {ps ys : List IQ} (h : Canon ps ys) (hp : ∀ x ∈ ps, 0 ≤ x.1 ∧ 1 ≤ x.2) (hl : lowB ys = true) : Good 12 (10 ^ 12) ys ∧ ys.length ≤ 20 := by
  unfold lowB at hl
  rw [Bool.and_eq_true] at hl
  have h20 := of_decide_eq_true hl.1
  have all := canon_all (p := fun x => 0 ≤ x.1 ∧ 1 ≤ x.2) (fun e b c h1 h2 => ⟨h1.1, by have := h1.2; have := h2.2; show 1 ≤ b + c; omega⟩) h hp
  refine ⟨⟨h.2, fun x hx => ?_⟩, h20⟩
  obtain ⟨h1, h2⟩ := all x hx
  have h3 := List.all_eq_true.mp hl.2 x hx
  rw [Bool.and_eq_true] at h3
  exact ⟨h1, of_decide_eq_true h3.1, h2, of_decide_eq_true h3.2⟩
theorem mulP_mem {p q : List IQ} {x : IQ} (h : x ∈ mulP p q) : ∃ a ∈ p, ∃ b ∈ q, x = (a.1 + b.1, a.2 * b.2) := by
  unfold mulP at h
  obtain ⟨a, ha, h⟩ := List.mem_flatMap.mp h
  obtain ⟨b, hb, rfl⟩ := List.mem_map.mp h
  exact ⟨a, ha, b, hb, rfl⟩
theorem fine_canon {ps ys : List IQ} (h : Canon ps ys) (hp : ∀ x ∈ ps, 0 ≤ x.1 ∧ x.1 ≤ 24 ∧ 1 ≤ x.2 ∧ x.2.natAbs ≤ 2 ^ 82) (hl : ps.length ≤ 50) : Fine 2 200000 (polyD ys) := by
  have a1 := canon_all (p := fun x => 0 ≤ x.1 ∧ x.1 ≤ 24) (fun e b c h1 h2 => h1) h fun x hx => ⟨(hp x hx).1, (hp x hx).2.1⟩
  have a2 := canon_coef h fun x hx => (hp x hx).2.2.2
  have hm : ps.length * 2 ^ 82 ≤ 50 * 2 ^ 82 := Nat.mul_le_mul_right _ hl
  have h9 : 50 * 2 ^ 82 < 2 ^ 900 := by decide
  have h8 : 24 < 2 ^ 900 := by decide
  refine fine_pairs (fun x hx => ⟨?_, ?_⟩) (Nat.le_trans (canon_len h) hl)
  · have := a1 x hx
    omega
  · have := a2 x hx
    omega
theorem sum_all {p r : List IQ} (hp : Good 12 (10 ^ 12) p) (hr : Good 12 (10 ^ 12) r) : ∀ x ∈ p ++ r, 0 ≤ x.1 ∧ x.1 ≤ 24 ∧ 1 ≤ x.2 ∧ x.2.natAbs ≤ 2 ^ 82 := fun x hx => by
  have key : ∀ {p : List IQ}, Good 12 (10 ^ 12) p → x ∈ p → 0 ≤ x.1 ∧ x.1 ≤ 24 ∧ 1 ≤ x.2 ∧ x.2.natAbs ≤ 2 ^ 82 := fun g hx => by
    obtain ⟨h1, h2, h3, h4⟩ := g.all x hx
    have : (10 : Int) ^ 12 = 1000000000000 := by decide
    have : 1000000000000 ≤ 2 ^ 82 := by decide
    omega
  rcases List.mem_append.mp hx with h | h
  · exact key hp h
  · exact key hr h
theorem prod_all {p r : List IQ} (hp : Good 12 (10 ^ 12) p) (hr : Good 12 (10 ^ 12) r) : ∀ x ∈ mulP p r, 0 ≤ x.1 ∧ x.1 ≤ 24 ∧ 1 ≤ x.2 ∧ x.2.natAbs ≤ 2 ^ 82 := fun x hx => by
  obtain ⟨a, ha, b, hb, rfl⟩ := mulP_mem hx
  obtain ⟨a1, a2, a3, a4⟩ := hp.all a ha
  obtain ⟨b1, b2, b3, b4⟩ := hr.all b hb
  have e : (10 : Int) ^ 12 = 1000000000000 := by decide
  rw [e] at a4 b4
  refine ⟨by show 0 ≤ a.1 + b.1; omega, by show a.1 + b.1 ≤ 24; omega, ?_, ?_⟩
  · show 1 ≤ a.2 * b.2
    have := Int.mul_pos (show 0 < a.2 by omega) (show 0 < b.2 by omega)
    omega
  · have := wide_lt (i := a.2) (j := b.2) (a := 41) (b := 41) (by omega) (by omega)
    exact Nat.le_of_lt this
end Zk

set_option maxHeartbeats 1000000
set_option exponentiation.threshold 1000
/-! Kh: the law. -/
namespace Zk
open PySem PySem.Spec PyProof.Rows L2 GxR
abbrev sLaw : Stmt := top 36
/-- _ = law(script) -/
def spLaw (K : PySem.W.Frag) (Ta : List Addr) : Sp := fun vs H Q _ => ∃ (a : Addr) (ns : List Int), vs = [.ref a] ∧ SqL K H a (ns.map V.int) ∧ ns.length ≤ 63 ∧ Tb Ta H ∧ ∀ H', Q (.bl true) H'
/-- a def called by keywords alone -/
structure CallK (P : Program) (w : World) (K : PySem.W.Frag) (mg : Str → Option Value) (base : Heap) (x : Str) (k : Nat) (ps ks : List Str) (sp : Sp) (g : List Value → List Value → List Value) (gV : List V → List V → List V) : Prop where
  ex : ∃ f fd, FnOk P w K mg base CX0 k f fd ps sp ∧ KBinds K fd ps ks g gV ∧ PySem.W.keepIn K (.ref f) = true ∧ mg x = some (.ref f)
def kg1 : List Value → List Value → List Value | [], [a] => [a] | _, _ => []
def kv1 : List V → List V → List V | [], [a] => [a] | _, _ => []
def kg2 : List Value → List Value → List Value | [], [a, b] => [b, a] | _, _ => []
def kv2 : List V → List V → List V | [], [a, b] => [b, a] | _, _ => []
theorem kr1 {vs : List V} {us : List Value} {zs : List V} {ws : List Value} (h : Vals vs us) (k : Vals zs ws) : Vals (kv1 vs zs) (kg1 us ws) := by
  cases h with
  | cons _ _ => exact .nil
  | nil => cases k with
    | nil => exact .nil
    | cons a r => cases r with
      | nil => exact .cons a .nil
      | cons _ _ => exact .nil
theorem kr2 {vs : List V} {us : List Value} {zs : List V} {ws : List Value} (h : Vals vs us) (k : Vals zs ws) : Vals (kv2 vs zs) (kg2 us ws) := by
  cases h with
  | cons _ _ => exact .nil
  | nil => cases k with
    | nil => exact .nil
    | cons a r => cases r with
      | nil => exact .nil
      | cons b r2 => cases r2 with
        | nil => exact .cons b (.cons a .nil)
        | cons _ _ => exact .nil
def kg3 : List Value → List Value → List Value | [], [a, b] => [a, b] | _, _ => []
def kv3 : List V → List V → List V | [], [a, b] => [a, b] | _, _ => []
theorem kr3 {vs : List V} {us : List Value} {zs : List V} {ws : List Value} (h : Vals vs us) (k : Vals zs ws) : Vals (kv3 vs zs) (kg3 us ws) := by
  cases h with
  | cons _ _ => exact .nil
  | nil => cases k with
    | nil => exact .nil
    | cons a r => cases r with
      | nil => exact .nil
      | cons b r2 => cases r2 with
        | nil => exact .cons a (.cons b .nil)
        | cons _ _ => exact .nil
structure Used (P : Program) (w : World) (K : PySem.W.Frag) (mg : Str → Option Value) (base : Heap) (Ta : List Addr) : Prop where
  deck : Call1 P w K mg base "_law_deck" 1 ["script", "seed"] (spDeck K)
  draw : Call1 P w K mg base "_law_draw" 1 ["deck", "many"] spDraw
  pick : Call1 P w K mg base "_law_pick" 2 ["deck", "some"] spPick
  any : Call1 P w K mg base "_law_any" 6 ["deck", "deep"] (spAny 2)
  dpoly : Call1 P w K mg base "_law_drawn_poly" 3 ["deck", "many", "most"] spDPoly
  near : Call1 P w K mg base "_law_near" 12 ["deck", "poly"] spNear
  dstr : Call1 P w K mg base "_law_drawn_string" 3 ["deck"] spDStr
  lpoly : Call1 P w K mg base "_law_is_poly" 2 ["thing"] (spLs isPolyD)
  low : Call1 P w K mg base "_law_is_low" 1 ["poly"] spLow
  llet : Call1 P w K mg base "_law_is_letter" 1 ["thing"] spLet
  lval : Call1 P w K mg base "_law_value" 1 ["poly", "n"] spLVal
  ladd : Call1 P w K mg base "_law_added" 1 ["pairs"] (spLAdd K)
  lprod : Call1 P w K mg base "_law_product" 2 ["one", "other"] spLProd
  poly : Call1 P w K mg base "is_poly" 4 ["thing"] (spL Ta isPolyD)
  word : Call1 P w K mg base "is_word" 3 ["thing"] (spL Ta isWordD)
  val : Call1 P w K mg base "value_at" 5 ["poly", "number"] (spValue Ta)
  sum : Call1 P w K mg base "sum_of" 6 ["poly", "other"] (spTwo Ta fun p r => p ++ r)
  prod : Call1 P w K mg base "product_of" 6 ["poly", "other"] (spTwo Ta mulP)
  polyK : CallK P w K mg base "is_poly" 4 ["thing"] ["thing"] (spL Ta isPolyD) kg1 kv1
  wordK : CallK P w K mg base "is_word" 3 ["thing"] ["thing"] (spL Ta isWordD) kg1 kv1
  valK : CallK P w K mg base "value_at" 5 ["poly", "number"] ["number", "poly"] (spValue Ta) kg2 kv2
  valK1 : CallK P w K mg base "value_at" 5 ["poly", "number"] ["poly", "number"] (spValue Ta) kg3 kv3
  sumK : CallK P w K mg base "sum_of" 6 ["poly", "other"] ["other", "poly"] (spTwo Ta fun p r => p ++ r) kg2 kv2
  prodK : CallK P w K mg base "product_of" 6 ["poly", "other"] ["other", "poly"] (spTwo Ta mulP) kg2 kv2
  sys : SysB base

/-- without the tables -/
def noT (H : Hp) : Hp := fun x => match H x with
  | some (.tbl _) => none
  | o => o
theorem noT_of {H : Hp} {x : Addr} {o : HO} (e : H x = some o) (n : ∀ ps, o ≠ .tbl ps) : noT H x = some o := by
  unfold noT
  rw [e]
  cases o with
  | tbl ps => exact absurd rfl (n ps)
  | _ => rfl
theorem noT_to {H : Hp} {x : Addr} {o : HO} (e : noT H x = some o) : H x = some o ∧ ∀ ps, o ≠ .tbl ps := by
  unfold noT at e
  split at e
  · cases e
  · rename_i n
    exact ⟨e, fun ps z => n ps (by rw [e, z])⟩
theorem noT_none {H : Hp} {x : Addr} (e : H x = none) : noT H x = none := by
  unfold noT
  rw [e]
theorem noT_sm (H : Hp) : Sm H (noT H) := fun _ _ e n => noT_of e n
theorem deck_sm {H0 H H' : Hp} {dk lf : Addr} {B : Nat} (h : DeckAt H0 H dk lf B) (s : Sm H H') : DeckAt (noT H0) H' dk lf B := by
  obtain ⟨left, mixed, draws, e1, e2, r⟩ := h.ex
  exact ⟨fun b o e => s _ _ (h.same _ _ (noT_to e).1) (noT_to e).2, noT_none h.off, noT_none h.offl, left, mixed, draws, s _ _ e1 (fun _ z => nomatch z), s _ _ e2 (fun _ z => nomatch z), r⟩
theorem tb_grow {H0 H H0' H' : Hp} {dk lf : Addr} {B : Nat} {Ta : List Addr} (h : DeckAt H0 H dk lf B) (g : Grow dk lf H0 H H0' H') (t : Tb Ta H) : Tb Ta H' := fun P hP => by
  obtain ⟨ps, e, k⟩ := t P hP
  obtain ⟨left, mixed, draws, e1, e2, _⟩ := h.ex
  exact ⟨ps, g.frame _ _ (ne_of e e1 fun z => nomatch z) (ne_of e e2 fun z => nomatch z) e, k⟩
theorem polyD_of {H : Hp} {v : V} {d : PyData} (sd : Sd H v d) (h : isPolyD d = true) : ∃ a p, v = .ref a ∧ d = polyD p ∧ PolyAt H a p := by
  cases d with
  | tuple ds =>
    obtain ⟨a, xs, rfl, ha, hs⟩ := sd_tup sd
    have all : ∀ e ∈ ds, isPairD e = true := by
      have h : (ds.all isPairD && ascB (ds.map fstD)) = true := h
      rw [Bool.and_eq_true] at h
      exact fun e he => List.all_eq_true.mp h.1 e he
    have key : ∀ {xs : List V} {ds : List PyData}, SdL H xs ds → (∀ e ∈ ds, isPairD e = true) → ∃ p : List IQ, ds = p.map pairD ∧ PT H xs p := by
      intro xs ds hs
      induction hs using SdL.rec (motive_1 := fun _ _ _ => True) (motive_3 := fun _ _ _ => True) with
      | nil => exact fun _ => ⟨[], rfl, .nil⟩
      | cons h t _ ih =>
        intro all
        obtain ⟨p, rfl, hp⟩ := ih fun e he => all e (List.mem_cons_of_mem _ he)
        obtain ⟨e, c, rfl, _, _⟩ := pair_of (all _ List.mem_cons_self)
        obtain ⟨t, rfl, ht⟩ := sd_pair h
        exact ⟨(e, c) :: p, rfl, .cons ⟨t, rfl, ht⟩ hp⟩
      | _ => trivial
    obtain ⟨p, rfl, hp⟩ := key hs all
    exact ⟨a, p, rfl, rfl, xs, ha, hp⟩
  | _ => cases h
/-- over a text -/
theorem lc_str {z : Str} {g : TG} {tt : TT} {te : TE} {vs : List Nat} {σ : L2.St} {H1 : Hp} {D : Addr} {Qd : Hp → Prop} (Pv : Nat → Hp → Prop) (h0 : Pv 0 (upd H1 D (.lst [])))
    (hs : ∀ i c H, z.cps.toList[i]? = some c → Pv i H → g (.str ⟨#[c]⟩) (wipe σ vs) H fun σ2 H2 => wipe σ2 vs = wipe σ vs ∧ tt σ2 H2 fun b H3 =>
      if b = true then te σ2 H3 fun y H4 => ∃ acc, H4 D = some (.lst acc) ∧ acc.length < sizeLine ∧ Pv (i + 1) (upd H4 D (.lst (acc ++ [y]))) else Pv (i + 1) H3) (hd : ∀ H, Pv z.cps.toList.length H → Qd H) :
    ∃ W : Nat → Nat → Hp → Prop, (∃ m, W 0 m (upd H1 D (.lst []))) ∧ ∀ i m H, W i m H →
      ((Its z).stop i H ∧ Qd H) ∨ ((Its z).go i H ∧ ∃ Nx : Hp → Prop, (∀ H', Nx H' → ∃ m', m' < m ∧ W (i + 1) m' H') ∧ ∀ x H', (Its z).yld i H x H' → g x (wipe σ vs) H' fun σ2 H2 => wipe σ2 vs = wipe σ vs ∧ tt σ2 H2 fun b H3 =>
        if b = true then te σ2 H3 fun y H4 => ∃ acc, H4 D = some (.lst acc) ∧ acc.length < sizeLine ∧ Nx (upd H4 D (.lst (acc ++ [y]))) else Nx H3) := by
  refine ⟨fun i m H => m = z.cps.toList.length - i ∧ i ≤ z.cps.toList.length ∧ Pv i H, ⟨z.cps.toList.length, by simp, Nat.zero_le _, h0⟩, ?_⟩
  rintro i m H ⟨rfl, hi, p⟩
  by_cases hlt : i < z.cps.toList.length
  · refine .inr ⟨by show i < z.cps.size; simpa using hlt, Pv (i + 1), fun H' p' => ⟨z.cps.toList.length - (i + 1), by omega, rfl, hlt, p'⟩, fun x H' y => ?_⟩
    obtain ⟨rfl, c, e, rfl⟩ := y
    exact hs i c _ (by simpa using e) p
  · exact .inl ⟨by show z.cps.size ≤ i; simpa using hlt, hd H (by rwa [show i = z.cps.toList.length by omega] at p)⟩
abbrev nmL : List Str := ["script", "deck", "turn", "poly", "other", "thing", "text", "due", "is_right", "number", "values", "x", "it"]
section
variable {P : Program} {w : World} {K : PySem.W.Frag} {mg : Str → Option Value} {base : Heap} {f : Addr} {fd : FuncData} {Ta : List Addr}
theorem scLaw : FnScope nmL ["script"] (defScope sLaw) := ⟨rfl, rfl, rfl, by decide +kernel, rfl, by decide +kernel, by decide +kernel⟩
theorem ok_law (F : Fun K "law" "law" sLaw f fd) (T : Blt2 mg) (U : Used P w K mg base Ta) : LawAt P w K mg base f fd ["script"] (spLaw K Ta) := by
  refine law_at (N := nmL) F scLaw (fun cdv s H vs Q h => ?_)
  obtain ⟨a, ns, rfl, hS, hl, tb, q⟩ := h
  obtain ⟨f_deck, d_deck, G_deck, b_deck, k_deck, m_deck⟩ := U.deck.ex
  obtain ⟨f_draw, d_draw, G_draw, b_draw, k_draw, m_draw⟩ := U.draw.ex
  obtain ⟨f_pick, d_pick, G_pick, b_pick, k_pick, m_pick⟩ := U.pick.ex
  obtain ⟨f_any, d_any, G_any, b_any, k_any, m_any⟩ := U.any.ex
  obtain ⟨f_dpoly, d_dpoly, G_dpoly, b_dpoly, k_dpoly, m_dpoly⟩ := U.dpoly.ex
  obtain ⟨f_near, d_near, G_near, b_near, k_near, m_near⟩ := U.near.ex
  obtain ⟨f_dstr, d_dstr, G_dstr, b_dstr, k_dstr, m_dstr⟩ := U.dstr.ex
  obtain ⟨f_lpoly, d_lpoly, G_lpoly, b_lpoly, k_lpoly, m_lpoly⟩ := U.lpoly.ex
  obtain ⟨f_low, d_low, G_low, b_low, k_low, m_low⟩ := U.low.ex
  obtain ⟨f_llet, d_llet, G_llet, b_llet, k_llet, m_llet⟩ := U.llet.ex
  obtain ⟨f_lval, d_lval, G_lval, b_lval, k_lval, m_lval⟩ := U.lval.ex
  obtain ⟨f_ladd, d_ladd, G_ladd, b_ladd, k_ladd, m_ladd⟩ := U.ladd.ex
  obtain ⟨f_lprod, d_lprod, G_lprod, b_lprod, k_lprod, m_lprod⟩ := U.lprod.ex
  obtain ⟨f_poly, d_poly, G_poly, b_poly, k_poly, m_poly⟩ := U.poly.ex
  obtain ⟨f_word, d_word, G_word, b_word, k_word, m_word⟩ := U.word.ex
  obtain ⟨f_val, d_val, G_val, b_val, k_val, m_val⟩ := U.val.ex
  obtain ⟨f_sum, d_sum, G_sum, b_sum, k_sum, m_sum⟩ := U.sum.ex
  obtain ⟨f_prod, d_prod, G_prod, b_prod, k_prod, m_prod⟩ := U.prod.ex
  obtain ⟨f_polyK, d_polyK, G_polyK, b_polyK, k_polyK, m_polyK⟩ := U.polyK.ex
  obtain ⟨f_wordK, d_wordK, G_wordK, b_wordK, k_wordK, m_wordK⟩ := U.wordK.ex
  obtain ⟨f_valK, d_valK, G_valK, b_valK, k_valK, m_valK⟩ := U.valK.ex
  obtain ⟨f_valK1, d_valK1, G_valK1, b_valK1, k_valK1, m_valK1⟩ := U.valK1.ex
  obtain ⟨f_sumK, d_sumK, G_sumK, b_sumK, k_sumK, m_sumK⟩ := U.sumK.ex
  obtain ⟨f_prodK, d_prodK, G_prodK, b_prodK, k_prodK, m_prodK⟩ := U.prodK.ex
  have hr : Room 13 (topX P w K mg base nmL "law" (defScope sLaw) f cdv s H).A := ⟨rfl, (by show callerA.depth + 1 + 3 * 13 + 5 < recursionLimit; decide), (by show callerA.units + 3 + 16 * 13 + 200 < cLine; decide)⟩
  have r1 : Room 1 (topX P w K mg base nmL "law" (defScope sLaw) f cdv s H).A := hr.mono (by decide)
  have r2 : Room 2 (topX P w K mg base nmL "law" (defScope sLaw) f cdv s H).A := hr.mono (by decide)
  have r3 : Room 3 (topX P w K mg base nmL "law" (defScope sLaw) f cdv s H).A := hr.mono (by decide)
  have r4 : Room 4 (topX P w K mg base nmL "law" (defScope sLaw) f cdv s H).A := hr.mono (by decide)
  have r5 : Room 5 (topX P w K mg base nmL "law" (defScope sLaw) f cdv s H).A := hr.mono (by decide)
  have r6 : Room 6 (topX P w K mg base nmL "law" (defScope sLaw) f cdv s H).A := hr.mono (by decide)
  have r12 : Room 12 (topX P w K mg base nmL "law" (defScope sLaw) f cdv s H).A := hr.mono (by decide)
  have hu : (topX P w K mg base nmL "law" (defScope sLaw) f cdv s H).A.units + 110 < cLine := by have := hr.un; omega
  have bR : bootBuiltins "repr" = some (.builtin "repr") := by decide +kernel
  refine ⟨_, (pss_cons (ps_set (i := 1) scLaw.nd rfl (Or.inl rfl) (pe_call G_deck r1 rfl m_deck k_deck b_deck .nil pass0 (pa_cons (pv 0) (pa_cons pe_int pa_nil))))
    (pss_cons (ps_for PassesOwn.never rfl (pi_range1 (by rfl) T.range (pa_cons pe_int pa_nil)) (pg_name (i := 2) scLaw.nd rfl (Or.inl rfl))
    (pss_cons (ps_par (i := 3) (j := 4) rfl scLaw.nd rfl rfl (by decide) rfl rfl (pa_cons (pe_call G_dpoly r3 rfl m_dpoly k_dpoly b_dpoly .nil pass0 (pa_cons (pv 1) (pa_cons pe_int (pa_cons pe_int pa_nil)))) (pa_cons (pe_call G_dpoly r3 rfl m_dpoly k_dpoly b_dpoly .nil pass0 (pa_cons (pv 1) (pa_cons pe_int (pa_cons pe_int pa_nil)))) pa_nil)) rfl)
    (pss_cons (ps_for PassesOwn.never rfl (pi_tup (pe_tup (pa_cons (pv 3) (pa_cons (pe_call G_near r12 rfl m_near k_near b_near .nil pass0 (pa_cons (pv 1) (pa_cons (pv 3) pa_nil))) (pa_cons (pe_call G_dstr r3 rfl m_dstr k_dstr b_dstr .nil pass0 (pa_cons (pv 1) pa_nil)) (pa_cons (pe_call G_any r6 rfl m_any k_any b_any .nil pass0 (pa_cons (pv 1) (pa_cons pe_int pa_nil))) pa_nil)))))) (pg_name (i := 5) scLaw.nd rfl (Or.inl rfl))
    (pss_cons (ps_par (i := 6) (j := 7) rfl scLaw.nd rfl rfl (by decide) rfl rfl (pa_cons (pe_callB (call_repr U.sys rfl hu) (by rfl) T.repr bR (pa_cons (pv 5) pa_nil)) (pa_cons (pe_call G_lpoly r2 rfl m_lpoly k_lpoly b_lpoly .nil pass0 (pa_cons (pv 5) pa_nil)) pa_nil)) rfl)
    (pss_cons (ps_if (PW.pt (pw_and (pt_val (pv 7)) (pw_and1 (pt_not (pt_val (pe_call G_low r1 rfl m_low k_low b_low .nil pass0 (pa_cons (pv 5) pa_nil))))))) (pss_one ps_continue) pss_nil)
    (pss_cons (ps_set (i := 8) scLaw.nd rfl (Or.inl rfl) (pe_and (pe_isD .str (pv 5) (by rfl) T.isinstance (by rfl) T.str (by decide +kernel)) (pe_one (pe_cmpR (op_eqL0 hr.units0) (pe_lc (own := [("x", 11)]) (g := gName 11) (tt := _) rfl scLaw.nd (pi_str (pv 5))
      (blkOk_by (N := nmL) (sc := defScope sLaw) (by decide +kernel)) (fun _ _ _ _ _ => pg_name (i := 11) scLaw.nd rfl (Or.inl rfl)) (fun _ _ _ _ _ => pts_one (pt_not (pt_val (pe_call G_llet r1 rfl m_llet k_llet b_llet .nil pass0 (pa_cons (pv 11) pa_nil))))) (fun _ _ _ _ _ => pv 11)) (pe_lst pa_nil) (nomark _)))))
    (pss_cons (ps_if (pt_cmpR op_ne (pe_callB (call_repr U.sys rfl hu) (by rfl) T.repr bR (pa_cons (pe_tup (pa_cons (pe_call G_poly r4 rfl m_poly k_poly b_poly .nil pass0 (pa_cons (pv 5) pa_nil)) (pa_cons (pe_callK0 G_polyK r4 rfl m_polyK k_polyK b_polyK pass0 (pk_cons (pv 5) pk_nil)) (pa_cons (pe_call G_word r3 rfl m_word k_word b_word .nil pass0 (pa_cons (pv 5) pa_nil)) (pa_cons (pe_callK0 G_wordK r3 rfl m_wordK k_wordK b_wordK pass0 (pk_cons (pv 5) pk_nil)) pa_nil))))) pa_nil)) (pe_callB (call_repr U.sys rfl hu) (by rfl) T.repr bR (pa_cons (pe_tup (pa_cons (pv 7) (pa_cons (pv 7) (pa_cons (pv 8) (pa_cons (pv 8) pa_nil))))) pa_nil)) (nomark _)) (pss_one (ps_ret pe_bl)) pss_nil)
    (pss_one (ps_if (pt_cmpR op_ne (pe_callB (call_repr U.sys rfl hu) (by rfl) T.repr bR (pa_cons (pv 5) pa_nil)) (pv 6) (nomark _)) (pss_one (ps_ret pe_bl)) pss_nil)))))))
    (pss_cons (ps_set (i := 9) scLaw.nd rfl (Or.inr rfl) (pe_call G_pick r2 rfl m_pick k_pick b_pick .nil pass0 (pa_cons (pv 1) (pa_cons (pe_lst (pa_cons pe_int (pa_cons pe_int (pa_cons pe_int (pa_cons (pe_call G_draw r1 rfl m_draw k_draw b_draw .nil pass0 (pa_cons (pv 1) (pa_cons pe_int pa_nil))) (pa_cons (pe_op op_sub (pe_op op_pow pe_int pe_int) (pe_call G_draw r1 rfl m_draw k_draw b_draw .nil pass0 (pa_cons (pv 1) (pa_cons pe_int pa_nil)))) (pa_cons pe_int pa_nil))))))) pa_nil))))
    (pss_cons (ps_setLc (i := 10) (own := [("it", 12)]) (g := gName 12) (tt := tYes) rfl scLaw.nd rfl rfl rfl (pi_tup (pe_tup (pa_cons (pv 3) (pa_cons (pv 4) pa_nil))))
      (blkOk_by (N := nmL) (sc := defScope sLaw) (by decide +kernel)) (fun _ _ _ _ _ => pg_name (i := 12) scLaw.nd rfl (Or.inl rfl)) (fun _ _ _ _ _ => pts_nil) (fun _ _ _ _ _ => (pe_call G_lval r1 rfl m_lval k_lval b_lval .nil pass0 (pa_cons (pv 12) (pa_cons (pv 9) pa_nil)))))
    (pss_cons (ps_if (pt_cmpR op_ne (pe_callB (call_repr U.sys rfl hu) (by rfl) T.repr bR (pa_cons (pe_tup (pa_cons (pe_call G_val r5 rfl m_val k_val b_val .nil pass0 (pa_cons (pv 3) (pa_cons (pv 9) pa_nil))) (pa_cons (pe_callK0 G_valK r5 rfl m_valK k_valK b_valK pass0 (pk_cons (pv 9) (pk_cons (pv 4) pk_nil))) pa_nil))) pa_nil)) (pe_callB (call_repr U.sys rfl hu) (by rfl) T.repr bR (pa_cons (pe_callTy call_tuple_of (by rfl) T.tuple (by decide +kernel) (pa_cons (pv 10) pa_nil)) pa_nil)) (nomark _)) (pss_one (ps_ret pe_bl)) pss_nil)
    (pss_cons (ps_set (i := 7) scLaw.nd rfl (Or.inl rfl) (pe_call G_ladd r1 rfl m_ladd k_ladd b_ladd .nil pass0 (pa_cons (pe_op op_catA (pv 3) (pv 4)) pa_nil)))
    (pss_cons (ps_if (pt_cmpR op_ne (pe_callB (call_repr U.sys rfl hu) (by rfl) T.repr bR (pa_cons (pe_tup (pa_cons (pe_call G_sum r6 rfl m_sum k_sum b_sum .nil pass0 (pa_cons (pv 3) (pa_cons (pv 4) pa_nil))) (pa_cons (pe_callK0 G_sumK r6 rfl m_sumK k_sumK b_sumK pass0 (pk_cons (pv 3) (pk_cons (pv 4) pk_nil))) pa_nil))) pa_nil)) (pe_callB (call_repr U.sys rfl hu) (by rfl) T.repr bR (pa_cons (pe_tup (pa_cons (pv 7) (pa_cons (pv 7) pa_nil))) pa_nil)) (nomark _)) (pss_one (ps_ret pe_bl)) pss_nil)
    (pss_cons (ps_if (PW.pt (pw_and (pt_val (pe_call G_low r1 rfl m_low k_low b_low .nil pass0 (pa_cons (pv 7) pa_nil))) (pw_and1 (pt_cmpR op_ne (pe_call G_val r5 rfl m_val k_val b_val .nil pass0 (pa_cons (pv 7) (pa_cons (pv 9) pa_nil))) (pe_callB (cr_sum rfl) (by rfl) T.sum (by decide +kernel) (pa_cons (pv 10) pa_nil)) (nomark _))))) (pss_one (ps_ret pe_bl)) pss_nil)
    (pss_cons (ps_set (i := 7) scLaw.nd rfl (Or.inl rfl) (pe_call G_lprod r2 rfl m_lprod k_lprod b_lprod .nil pass0 (pa_cons (pv 3) (pa_cons (pv 4) pa_nil))))
    (pss_cons (ps_if (pt_cmpR op_ne (pe_callB (call_repr U.sys rfl hu) (by rfl) T.repr bR (pa_cons (pe_tup (pa_cons (pe_call G_prod r6 rfl m_prod k_prod b_prod .nil pass0 (pa_cons (pv 3) (pa_cons (pv 4) pa_nil))) (pa_cons (pe_callK0 G_prodK r6 rfl m_prodK k_prodK b_prodK pass0 (pk_cons (pv 3) (pk_cons (pv 4) pk_nil))) pa_nil))) pa_nil)) (pe_callB (call_repr U.sys rfl hu) (by rfl) T.repr bR (pa_cons (pe_tup (pa_cons (pv 7) (pa_cons (pv 7) pa_nil))) pa_nil)) (nomark _)) (pss_one (ps_ret pe_bl)) pss_nil)
    (pss_one (ps_if (PW.pt (pw_and (pt_val (pe_call G_low r1 rfl m_low k_low b_low .nil pass0 (pa_cons (pv 7) pa_nil))) (pw_and1 (pt_cmpR op_ne (pe_callK0 G_valK1 r5 rfl m_valK1 k_valK1 b_valK1 pass0 (pk_cons (pv 7) (pk_cons (pv 9) pk_nil))) (pe_op op_mulW (pe_ix (r := rIxL K) ix_list (pv 10) pe_int (fun _ _ => rfl)) (pe_ix (r := rIxL K) ix_list (pv 10) pe_int (fun _ _ => rfl))) (nomark _))))) (pss_one (ps_ret pe_bl)) pss_nil)))))))))))))
    (pss_one (ps_ret pe_bl)))), ?_⟩
  refine ⟨_, rfl, a, ns, 15365001, rfl, hS, hl, by decide, by decide, fun dk lf H1 D1 => ?_⟩
  have tb1 := tb.same D1.same
  refine ⟨4, rfl, by decide, by decide, ?_⟩
  refine for_range (lo := 0) (n := 4) (fun i σ H' => ∃ H0 u2 u3 u4 u5 u6 u7 u8 u9 u10, σ = [some (.ref a), some (.ref dk), u2, u3, u4, u5, u6, u7, u8, u9, u10, none, none] ∧ DeckAt H0 H' dk lf (1000 * i) ∧ Tb Ta H')
    ⟨H, none, none, none, none, none, none, none, none, none, rfl, D1, tb1⟩ ?turn ?fin
  case fin =>
    rintro σ H' ⟨H0, u2, u3, u4, u5, u6, u7, u8, u9, u10, rfl, D, tb⟩
    exact q _
  rintro i σ H2 hi ⟨H0, u2, u3, u4, u5, u6, u7, u8, u9, u10, rfl, D2, tb2⟩
  clear hS D1 tb1 tb
  refine ⟨_, rfl, H0, dk, lf, 1000 * i, 8, 12, rfl, by decide, by decide, D2, by omega, fun pa pP H03 H3 g3 D3 hpP gpP lpP => ?_⟩
  refine ⟨_, rfl, H03, dk, lf, 1000 * i + 40, 5, 6, rfl, by decide, by decide, D3, by omega, fun oa pO H04 H4 g4 D4 hpO gpO lpO => ?_⟩
  refine ⟨_, _, rfl, ?_⟩
  have tb4 := tb_grow D3 g4 (tb_grow D2 g3 tb2)
  have hpP4 := hpP.sm (Same.sm g4.same)
  have gP : Good 12 (10 ^ 12) pP := gpP
  have gO : Good 6 (10 ^ 12) pO := gpO
  refine ⟨_, rfl, _, rfl, _, rfl, H04, dk, lf, pa, 1000 * i + 80, pP, rfl, D4, by omega, hpP4, gP, lpP, fun vn dn H05 H5 g5 D5 sn rn => ?_⟩
  refine ⟨_, rfl, H05, dk, lf, 1000 * i + 480, rfl, D5, by omega, fun x6 H06 H6 g6 D6 lx6 sx6 => ?_⟩
  refine ⟨_, rfl, H06, dk, lf, 1000 * i + 510, 2, rfl, Nat.le_refl _, D6, by rw [any_cost2]; omega, fun va da H07 H7 g7 D7 sa ra => ?_⟩
  rw [any_cost2] at D7
  refine ⟨by show 4 ≤ sizeLine; decide, fun tp htp => ⟨tp, rfl, ⟨_, SqT.of upd_same⟩, ?_⟩⟩
  have tb7 := tb_grow D6 g7 (tb_grow D5 g6 (tb_grow D4 g5 tb4))
  have D8 := D7.new htp (o := .tup [.ref pa, vn, .str x6, va])
  have tb8 := tb7.same (same_new htp (.tup [.ref pa, vn, .str x6, va]))
  have s47 : Same H04 H07 := (g5.same.trans g6.same).trans g7.same
  have s8 : Same H07 (upd H07 tp (.tup [.ref pa, vn, .str x6, va])) := same_new (D7.free htp) _
  have sP8 := hpP4.sm (Same.sm (s47.trans s8))
  have sO8 := hpO.sm (Same.sm (s47.trans s8))
  have stp : upd H07 tp (.tup [.ref pa, vn, .str x6, va]) tp = some (.tup [.ref pa, vn, .str x6, va]) := upd_same
  have things : ∀ x ∈ [V.ref pa, vn, .str x6, va], ∃ d, Sd (upd H07 tp (.tup [.ref pa, vn, .str x6, va])) x d ∧ Fine 20 900000 d ∧ Lens d := fun x hx => by
    have b2 : bl 2 = 192342 := by decide
    have b3 : rb 2 = 819148 := by decide
    have b4 : anyLen 2 = 130024 := by decide
    simp only [List.mem_cons, List.not_mem_nil, or_false] at hx
    rcases hx with rfl | rfl | rfl | rfl
    · have b := bs_poly gP lpP
      exact ⟨_, sP8.sd, (bs_fine b).mono (by omega) (by omega), bs_lens b⟩
    · exact ⟨dn, sn.same ((g6.same.trans g7.same).trans s8), rn.1.mono (by omega) (by omega), rn.2⟩
    · exact ⟨.str x6, .str x6, (fine_str sx6).mono (by omega) (by omega), lens_str (by omega)⟩
    · exact ⟨da, sa.same s8, ra.1.mono (by omega) (by omega), ra.2⟩
  generalize upd H07 tp (.tup [.ref pa, vn, .str x6, va]) = H08 at D8 sP8 sO8 stp things
  generalize upd H7 tp (.tup [.ref pa, vn, .str x6, va]) = H8 at D8 tb8
  clear D7 D6 D5 D4 D3 D2 g3 g4 g5 g6 g7 tb7 tb4 tb2 hpP hpP4 hpO sn rn sa ra s47 s8 sx6 lx6 htp gpP gpO
  refine for_tup (K := K) (a := tp) (xs := [.ref pa, vn, .str x6, va]) (fun _ σ H' => ∃ H09 v5 v6 v7 v8, σ = [some (.ref a), some (.ref dk), some (.int (0 + (i : Nat))), some (.ref pa), some (.ref oa), v5, v6, v7, v8, u9, u10, none, none] ∧ DeckAt H09 H' dk lf (1000 * i + 540) ∧ Tb Ta H' ∧ Sm H08 H09)
    ⟨H08, u5, u6, u7, u8, rfl, D8, tb8, Sm.refl _⟩ (fun _ _ H' _ ⟨H09, _, _, _, _, _, D, _, s⟩ => SqT.of (D.same _ _ (s _ _ stp (fun _ z => nomatch z)))) ?thing ?rest
  case rest =>
    rintro σ H9 ⟨H09, v5, v6, v7, v8, rfl, D9, tb9, s9⟩
    have hP := sP8.sm s9
    have hO := sO8.sm s9
    clear things sP8 sO8 s9 D8 tb8 stp
    refine ⟨_, rfl, _, rfl, H09, dk, lf, 1000 * i + 540, 100, rfl, D9, by omega, by decide, by decide, fun z1 Ha z10 z11 ga Da => ?_⟩
    refine ⟨10, 6, rfl, rfl, ⟨by decide, by decide, by decide⟩, _, rfl, H09, dk, lf, 1000 * i + 541, 9, rfl, Da, by omega, by decide, by decide, fun z2 Hb z20 z21 gb Db => ⟨_, _, rfl, rfl, (by show 6 ≤ sizeLine; decide), fun l hl => ?_⟩⟩
    have Dl := Db.drop hl (o := .lst [.int 0, .int 1, .int 2, .int z1, .int ((10 : Int) ^ (6 : Int).toNat - z2), .int 10])
    have tbl := (tb_grow Da gb (tb_grow D9 ga tb9)).same (same_new hl (.lst [.int 0, .int 1, .int 2, .int z1, .int ((10 : Int) ^ (6 : Int).toNat - z2), .int 10]))
    refine ⟨H09, dk, lf, l, 1000 * i + 542, _, rfl, Dl, by omega, upd_same, (Db.ned hl).symm, (Db.nel hl).symm, (by show 0 < 6; decide), (by show 6 < 2 ^ 59; decide), fun v Hc hv gc Dc => ?_⟩
    have tbc := tb_grow Dl gc tbl
    have num : ∃ k : Nat, v = .int (k : Int) ∧ k ≤ 1000000 := by
      have e6 : (10 : Int) ^ (6 : Int).toNat = 1000000 := by decide
      rw [e6] at hv
      simp only [List.mem_cons, List.not_mem_nil, or_false] at hv
      rcases hv with rfl | rfl | rfl | rfl | rfl | rfl
      · exact ⟨0, rfl, by omega⟩
      · exact ⟨1, rfl, by omega⟩
      · exact ⟨2, rfl, by omega⟩
      · exact ⟨z1.toNat, by rw [show ((z1.toNat : Nat) : Int) = z1 by omega], by omega⟩
      · exact ⟨(1000000 - z2).toNat, by rw [show (((1000000 - z2).toNat : Nat) : Int) = 1000000 - z2 by omega], by omega⟩
      · exact ⟨10, rfl, by omega⟩
    obtain ⟨k, rfl, hk⟩ := num
    clear tbl Dl tb9 D9 Da Db ga gb gc hl hv
    have hP := hP.sm (Same.sm Dc.same)
    have hO := hO.sm (Same.sm Dc.same)
    have gO12 : Good 12 (10 ^ 12) pO := gO.mono (by omega) (by omega)
    have sP : ∀ x ∈ pP, 0 ≤ x.1 ∧ x.1 ≤ 12 ∧ x.2.natAbs < 2 ^ 41 := fun x hx => by
      obtain ⟨h1, h2, h3, h4⟩ := gP.all x hx
      have : (10 : Int) ^ 12 = 1000000000000 := by decide
      exact ⟨h1, h2, by omega⟩
    have sO : ∀ x ∈ pO, 0 ≤ x.1 ∧ x.1 ≤ 12 ∧ x.2.natAbs < 2 ^ 41 := fun x hx => by
      obtain ⟨h1, h2, h3, h4⟩ := gO12.all x hx
      have : (10 : Int) ^ 12 = 1000000000000 := by decide
      exact ⟨h1, h2, by omega⟩
    have eP := eval_small sP (by omega) hk
    have eO := eval_small sO (by omega) hk
    refine ⟨_, rfl, _, rfl, (by show 2 ≤ sizeLine; decide), fun p hp => ⟨p, rfl, ⟨_, SqT.of upd_same⟩, fun D hD => ?_⟩⟩
    have sd1 := (same_new hp (.tup [.ref pa, .ref oa])).trans (same_new hD (.lst []))
    refine lc_tup (K := K) (a := p) (xs := [.ref pa, .ref oa]) (fun j H1 => H1 = upd (upd Hc p (.tup [.ref pa, .ref oa])) D (.lst (([evalP pP k, evalP pO k].take j).map V.int))) rfl (fun j H1 _ e => by rw [e]; exact SqT.of (same_new hD _ _ _ upd_same)) ?_ ?_
    · rintro j x H1 hx rfl
      refine ⟨rfl, ?_⟩
      dsimp only [tYes]
      refine iteT ?_
      have so := (same_new hp (.tup [.ref pa, .ref oa])).trans (same_new hD (.lst (([evalP pP k, evalP pO k].take j).map V.int)))
      match j, hx with
      | 0, hx =>
        cases hx
        exact ⟨_, rfl, _, rfl, pa, pP, k, rfl, hP.sm (Same.sm so), gP, by omega, hk, _, upd_same, (by show 0 < sizeLine; decide), by rw [upd_upd]; rfl⟩
      | 1, hx =>
        cases hx
        exact ⟨_, rfl, _, rfl, oa, pO, k, rfl, hO.sm (Same.sm so), gO12, by omega, hk, _, upd_same, (by show 1 < sizeLine; decide), by rw [upd_upd]; rfl⟩
    rintro He rfl
    have sce : Same Hc (upd (upd Hc p (.tup [.ref pa, .ref oa])) D (.lst (([evalP pP k, evalP pO k].take 2).map V.int))) := (same_new hp _).trans (same_new hD _)
    have eD : upd (upd Hc p (.tup [.ref pa, .ref oa])) D (.lst (([evalP pP k, evalP pO k].take 2).map V.int)) D = some (.lst [.int (evalP pP k), .int (evalP pO k)]) := upd_same
    have Dend : ∀ Hz, Sm (upd (upd Hc p (.tup [.ref pa, .ref oa])) D (.lst (([evalP pP k, evalP pO k].take 2).map V.int))) Hz → DeckAt (noT H09) Hz dk lf (1000 * (i + 1)) := fun Hz sz => (deck_sm Dc ((Same.sm sce).trans sz)).mono (by omega)
    have hP := hP.sm (Same.sm sce)
    have hO := hO.sm (Same.sm sce)
    have tbe := tbc.same sce
    clear sd1
    refine (?_ : (fun Hx => _) (upd (upd Hc p (.tup [.ref pa, .ref oa])) D (.lst (([evalP pP k, evalP pO k].take 2).map V.int))))
    generalize upd (upd Hc p (.tup [.ref pa, .ref oa])) D (.lst (([evalP pP k, evalP pO k].take 2).map V.int)) = He at hP hO eD tbe Dend
    clear hp hD sce Dc tbc
    have neS : ∀ y : Str, (!decide (V.str y = V.str y)) = false := fun y => by rw [decide_eq_true rfl]; rfl
    have neI : ∀ y : Int, (!decide (V.int y = V.int y)) = false := fun y => by rw [decide_eq_true rfl]; rfl
    have dp3 : ∀ {d : PyData}, Fine 3 500000 d → d.depth ≤ 100 := fun h => Nat.le_trans h.deep (by decide)
    have ln3 : ∀ {d : PyData}, Fine 3 500000 d → d.shown.length ≤ sizeLine := fun h => Nat.le_trans h.long (by decide)
    have fv := fine_ints (i := evalP pP k) (j := evalP pO k) (Nat.lt_trans eP (by decide)) (Nat.lt_trans eO (by decide))
    refine ⟨_, rfl, _, rfl, pa, pP, k, rfl, hP, gP, by omega, hk, tbe, fun Hf sf tf => ⟨_, rfl, _, rfl, oa, pO, k, rfl, hO.sm sf, gO12, by omega, hk, tf, fun Hg sg tg => ⟨(by show 2 ≤ sizeLine; decide), fun p2 hp2 => ?_⟩⟩⟩
    have sB := (sf.trans sg).trans (Same.sm (same_new hp2 (.tup [.int (evalP pP k), .int (evalP pO k)])))
    refine ⟨_, .tuple [.int (evalP pP k), .int (evalP pO k)], rfl, Sd.tup upd_same (.cons (.int _) (.cons (.int _) .nil)), fv.able, dp3 fv, ln3 fv, ?_⟩
    refine ⟨_, rfl, D, [.int (evalP pP k), .int (evalP pO k)], rfl, .inl ⟨SqL.of (sB _ _ eD (fun _ z => nomatch z)), fun b hb => ?_⟩⟩
    refine ⟨_, .tuple [.int (evalP pP k), .int (evalP pO k)], rfl, Sd.tup upd_same (.cons (.int _) (.cons (.int _) .nil)), fv.able, dp3 fv, ln3 fv, rfl, false, congrArg V.bl (neS _), iteF ?_⟩
    have s1 := sB.trans (Same.sm (same_new hb (.tup [.int (evalP pP k), .int (evalP pO k)])))
    have tb1 := (tg.same (same_new hp2 (.tup [.int (evalP pP k), .int (evalP pO k)]))).same (same_new hb (.tup [.int (evalP pP k), .int (evalP pO k)]))
    have hP1 := hP.sm s1
    have hO1 := hO.sm s1
    have eD1 := s1 _ _ eD (fun _ z => nomatch z)
    have Dend1 := fun Hz sz => Dend Hz (s1.trans sz)
    refine (?_ : (fun Hx => _) (upd (upd Hg p2 (.tup [.int (evalP pP k), .int (evalP pO k)])) b (.tup [.int (evalP pP k), .int (evalP pO k)])))
    generalize upd (upd Hg p2 (.tup [.int (evalP pP k), .int (evalP pO k)])) b (.tup [.int (evalP pP k), .int (evalP pO k)]) = H1 at hP1 hO1 eD1 tb1 Dend1
    clear hP hO eD tbe Dend s1 sB hb hp2 tg sg tf sf
    clear Hf Hg He b p2
    unfold tNext
    dsimp only
    have gP3 : Good 1000 (10 ^ 12) pP := gP.mono (by omega) (by omega)
    have gO3 : Good 1000 (10 ^ 12) pO := gO12.mono (by omega) (by omega)
    refine (seq_to (fun σ' H' => ∃ b ys, σ' = [some (.ref a), some (.ref dk), some (.int (0 + (i : Nat))), some (.ref pa), some (.ref oa), v5, v6, some (.ref b), v8, some (.int (k : Int)), some (.ref D), none, none] ∧ Sm H1 H' ∧ Tb Ta H' ∧ PolyAt H' b ys ∧ Canon (pP ++ pO) ys) ?_ ?_ : tSeq _ _ _ _ _)
    · rintro σ' H2 ⟨b, ys, rfl, s2, tb2, hb, cy⟩
      have hP2 := hP1.sm s2
      have hO2 := hO1.sm s2
      have eD2 := s2 _ _ eD1 (fun _ z => nomatch z)
      have Dend2 := fun Hz sz => Dend1 Hz (s2.trans sz)
      clear hP1 hO1 eD1 tb1 Dend1 s2
      clear H1
      have fy := fine_canon cy (sum_all gP gO12) (by rw [List.length_append]; omega)
      have f2 := fine_two fy
      have ly := canon_len cy
      refine ⟨_, rfl, _, rfl, pa, oa, pP, pO, rfl, hP2, hO2, gP3, gO3, by omega, by omega, tb2, fun Hf x1 ys1 sf tf p1 c1 => ⟨_, rfl, _, rfl, oa, pa, pO, pP, rfl, hO2.sm sf, hP2.sm sf, gO3, gP3, by omega, by omega, tf, fun Hg x2 ys2 sg tg p2 c2 => ⟨(by show 2 ≤ sizeLine; decide), fun p3 h3 => ?_⟩⟩⟩
      have e1 : ys = ys1 := canon_uniq (List.Perm.refl _) cy c1
      subst e1
      have e2 : ys = ys2 := canon_uniq List.perm_append_comm cy c2
      subst e2
      have s3 := Same.sm (same_new h3 (.tup [.ref x1, .ref x2]))
      have sB := (sf.trans sg).trans s3
      refine ⟨_, .tuple [polyD ys, polyD ys], rfl, Sd.tup upd_same (.cons ((p1.sm (sg.trans s3)).sd) (.cons ((p2.sm s3).sd) .nil)), f2.able, dp3 f2, ln3 f2, ?_⟩
      refine ⟨_, rfl, _, rfl, (by show 2 ≤ sizeLine; decide), fun p4 h4 => ?_⟩
      have sC := sB.trans (Same.sm (same_new h4 (.tup [.ref b, .ref b])))
      have hb3 := hb.sm sC
      refine ⟨_, .tuple [polyD ys, polyD ys], rfl, Sd.tup upd_same (.cons hb3.sd (.cons hb3.sd .nil)), f2.able, dp3 f2, ln3 f2, rfl, false, congrArg V.bl (neS _), iteF ?_⟩
      have tb3 := (tg.same (same_new h3 (.tup [.ref x1, .ref x2]))).same (same_new h4 (.tup [.ref b, .ref b]))
      have hP3 := hP2.sm sC
      have hO3 := hO2.sm sC
      have eD3 := sC _ _ eD2 (fun _ z => nomatch z)
      have Dend3 := fun Hz sz => Dend2 Hz (sC.trans sz)
      refine (?_ : (fun Hx => _) (upd (upd Hg p3 (.tup [.ref x1, .ref x2])) p4 (.tup [.ref b, .ref b])))
      generalize upd (upd Hg p3 (.tup [.ref x1, .ref x2])) p4 (.tup [.ref b, .ref b]) = H3 at hP3 hO3 eD3 tb3 Dend3 hb3
      clear hP2 hO2 eD2 tb2 Dend2 hb sC sB s3 h3 h4 tg sg tf sf p1 p2 c1 c2
      clear Hf Hg x1 x2 p3 p4 H2

      dsimp only
      have l13 : ys.length ≤ 50 := by rw [List.length_append] at ly; omega
      refine seq_if (fun σ' H' => σ' = [some (.ref a), some (.ref dk), some (.int (0 + (i : Nat))), some (.ref pa), some (.ref oa), v5, v6, some (.ref b), v8, some (.int (k : Int)), some (.ref D), none, none] ∧ Sm H3 H' ∧ Tb Ta H') ?_ ?_
      · rintro σ' H4 ⟨rfl, s4, tb4⟩
        have hP4 := hP3.sm s4
        have hO4 := hO3.sm s4
        have eD4 := s4 _ _ eD3 (fun _ z => nomatch z)
        have Dend4 := fun Hz sz => Dend3 Hz (s4.trans sz)
        clear hP3 hO3 eD3 tb3 Dend3 s4 hb3 cy ly fy f2 l13
        clear H3
        refine (seq_to (fun σ' H' => ∃ b ys, σ' = [some (.ref a), some (.ref dk), some (.int (0 + (i : Nat))), some (.ref pa), some (.ref oa), v5, v6, some (.ref b), v8, some (.int (k : Int)), some (.ref D), none, none] ∧ Sm H4 H' ∧ Tb Ta H' ∧ PolyAt H' b ys ∧ Canon (mulP pP pO) ys) ?_ ?_ : tSeq _ _ _ _ _)
        · rintro σ' H5 ⟨b, ys, rfl, s5, tb5, hb, cy⟩
          have hP5 := hP4.sm s5
          have hO5 := hO4.sm s5
          have eD5 := s5 _ _ eD4 (fun _ z => nomatch z)
          have Dend5 := fun Hz sz => Dend4 Hz (s5.trans sz)
          have l40 : (mulP pP pO).length ≤ 40 := by
            rw [mulP_len]
            exact Nat.mul_le_mul lpP lpO
          clear hP4 hO4 eD4 tb4 Dend4 s5
          clear H4
          have fy := fine_canon cy (prod_all gP gO12) (by omega)
          have f2 := fine_two fy
          have ly := canon_len cy
          refine ⟨_, rfl, _, rfl, pa, oa, pP, pO, rfl, hP5, hO5, gP3, gO3, by omega, by omega, tb5, fun Hf x1 ys1 sf tf p1 c1 => ⟨_, rfl, _, rfl, oa, pa, pO, pP, rfl, hO5.sm sf, hP5.sm sf, gO3, gP3, by omega, by omega, tf, fun Hg x2 ys2 sg tg p2 c2 => ⟨(by show 2 ≤ sizeLine; decide), fun p3 h3 => ?_⟩⟩⟩
          have e1 : ys = ys1 := canon_uniq (List.Perm.refl _) cy c1
          subst e1
          have e2 : ys = ys2 := canon_uniq (mulP_comm pP pO) cy c2
          subst e2
          have s3 := Same.sm (same_new h3 (.tup [.ref x1, .ref x2]))
          have sB := (sf.trans sg).trans s3
          refine ⟨_, .tuple [polyD ys, polyD ys], rfl, Sd.tup upd_same (.cons ((p1.sm (sg.trans s3)).sd) (.cons ((p2.sm s3).sd) .nil)), f2.able, dp3 f2, ln3 f2, ?_⟩
          refine ⟨_, rfl, _, rfl, (by show 2 ≤ sizeLine; decide), fun p4 h4 => ?_⟩
          have sC := sB.trans (Same.sm (same_new h4 (.tup [.ref b, .ref b])))
          have hb6 := hb.sm sC
          refine ⟨_, .tuple [polyD ys, polyD ys], rfl, Sd.tup upd_same (.cons hb6.sd (.cons hb6.sd .nil)), f2.able, dp3 f2, ln3 f2, rfl, false, congrArg V.bl (neS _), iteF ?_⟩
          have tb6 := (tg.same (same_new h3 (.tup [.ref x1, .ref x2]))).same (same_new h4 (.tup [.ref b, .ref b]))
          have hP6 := hP5.sm sC
          have hO6 := hO5.sm sC
          have eD6 := sC _ _ eD5 (fun _ z => nomatch z)
          have Dend6 := fun Hz sz => Dend5 Hz (sC.trans sz)
          refine (?_ : (fun Hx => _) (upd (upd Hg p3 (.tup [.ref x1, .ref x2])) p4 (.tup [.ref b, .ref b])))
          generalize upd (upd Hg p3 (.tup [.ref x1, .ref x2])) p4 (.tup [.ref b, .ref b]) = H6 at hP6 hO6 eD6 tb6 Dend6 hb6
          clear hP5 hO5 eD5 tb5 Dend5 hb sC sB s3 h3 h4 tg sg tf sf p1 p2 c1 c2
          clear Hf Hg x1 x2 p3 p4 H5

          dsimp only
          have l13 : ys.length ≤ 50 := by omega
          have endP : ∀ H', Sm H6 H' → Tb Ta H' → ∃ H0 u2 u3 u4 u5 u6 u7 u8 u9 u10, [some (.ref a), some (.ref dk), some (.int (0 + (i : Nat))), some (.ref pa), some (.ref oa), v5, v6, some (.ref b), v8, some (.int (k : Int)), some (.ref D), none, none] = [some (.ref a), some (.ref dk), u2, u3, u4, u5, u6, u7, u8, u9, u10, none, none] ∧ DeckAt H0 H' dk lf (1000 * (i + 1)) ∧ Tb Ta H' := fun H' s' t' => ⟨noT H09, _, _, _, _, _, _, _, _, _, rfl, Dend6 H' s', t'⟩
          refine ⟨_, rfl, b, ys, rfl, hb6, by omega, fun H7 s7 => ⟨_, rfl, ?_⟩⟩
          refine ite2 (fun lo => ?_) (fun _ => ?_)
          · have gl := low_good cy (fun x hx => ⟨(prod_all gP gO12 x hx).1, (prod_all gP gO12 x hx).2.2.1⟩) lo
            have i0 : atI [V.int (evalP pP k), V.int (evalP pO k)] ((0 : Nat) : Int) = some (V.int (evalP pP k)) := atI_nat rfl
            have i1 : atI [V.int (evalP pP k), V.int (evalP pO k)] ((1 : Nat) : Int) = some (V.int (evalP pO k)) := atI_nat rfl
            refine ⟨_, rfl, _, rfl, b, ys, k, rfl, hb6.sm (Same.sm s7), gl.1, by omega, hk, tb6.same s7, fun Hv sv tv => ?_⟩
            have eDv := sv _ _ (s7 _ _ eD6) (fun _ z => nomatch z)
            refine ⟨_, rfl, D, _, _, _, rfl, rfl, SqL.of eDv, i0, _, rfl, D, _, _, _, rfl, rfl, SqL.of eDv, i1, _, _, rfl, rfl, wide_mul eP eO (by decide) (by decide) (by decide), rfl, false, congrArg V.bl ?_, iteF ?_⟩
            · have e : evalP ys k = evalP pP k * evalP pO k := by
                rw [← eval_mul (fun x hx => (sP x hx).1) (fun x hx => (sO x hx).1)]
                unfold evalP
                rw [canon_lin _ cy]
              rw [e]
              exact neI _
            · exact endP _ ((Same.sm s7).trans sv) tv
          · exact iteF (endP _ (Same.sm s7) (tb6.same s7))
        · intro fin
          have l40 : pP.length * pO.length ≤ 40 := Nat.mul_le_mul lpP lpO
          exact ⟨_, rfl, _, rfl, pa, oa, pP, pO, rfl, hP4, hO4, gP3, gO3, by omega, by omega, fun H' x ys s' px cx => fin _ _ ⟨x, ys, rfl, Same.sm s', tb4.same s', px, cx⟩⟩
      · intro fin
        refine ⟨_, rfl, b, ys, rfl, hb3, by omega, fun H4 s4 => ⟨_, rfl, ?_⟩⟩
        refine ite2 (fun lo => ?_) (fun _ => ?_)
        · have gl := low_good cy (fun x hx => ⟨(sum_all gP gO12 x hx).1, (sum_all gP gO12 x hx).2.2.1⟩) lo
          refine ⟨_, rfl, _, rfl, b, ys, k, rfl, hb3.sm (Same.sm s4), gl.1, by omega, hk, tb3.same s4, fun Hv sv tv => ⟨_, rfl, D, [evalP pP k, evalP pO k], rfl, SqL.of (sv _ _ (s4 _ _ eD3) (fun _ z => nomatch z)), rfl, false, congrArg V.bl ?_, iteF ?_⟩⟩
          · have e : evalP ys k = [evalP pP k, evalP pO k].sum := by
              unfold evalP
              rw [canon_lin _ cy, lin_app]
              simp
            rw [e]
            exact neI _
          · exact fin _ _ ⟨rfl, (Same.sm s4).trans sv, tv⟩
        · exact iteF (fin _ _ ⟨rfl, Same.sm s4, tb3.same s4⟩)
    · intro fin
      obtain ⟨xs, ha, hs⟩ := id hP1
      obtain ⟨zs, hb, ht⟩ := id hO1
      have lxs := PT.len hs
      have lzs := PT.len ht
      have l64 : (pP ++ pO).length < 64 := by rw [List.length_append]; omega
      refine ⟨_, rfl, _, rfl, pa, oa, xs, zs, rfl, rfl, SqT.of ha, SqT.of hb, sl_small (by omega), fun z => ?_, fun _ z => ?_, fun _ _ p hp => ?_⟩
      · subst z
        cases hs
        exact ⟨oa, zs, pO, rfl, .inr hb, ht, l64, fun H' b ys s' pb cb => fin _ _ ⟨b, ys, rfl, Same.sm s', tb1.same s', pb, cb⟩⟩
      · subst z
        cases ht
        exact ⟨pa, xs, pP ++ [], rfl, .inr ha, (by rw [List.append_nil]; exact hs), l64, fun H' b ys s' pb cb => fin _ _ ⟨b, ys, rfl, Same.sm s', tb1.same s', pb, cb⟩⟩
      · have sp := same_new hp (.tup (xs ++ zs))
        exact ⟨p, xs ++ zs, pP ++ pO, rfl, .inr upd_same, PT.app (PT.sm (Same.sm sp) hs) (PT.sm (Same.sm sp) ht), l64, fun H' b ys s' pb cb => fin _ _ ⟨b, ys, rfl, Same.sm (sp.trans s'), (tb1.same sp).same s', pb, cb⟩⟩
  rintro j x σ H9 hx ⟨H09, v5, v6, v7, v8, rfl, D9, tb9, s9⟩
  obtain ⟨d, sd, fd', ld⟩ := things x (List.mem_of_getElem? hx)
  have sd := sd.sm s9
  have sd9 := D9.sd sd
  have dpt : d.depth ≤ 100 := Nat.le_trans fd'.deep (by decide)
  have lng : d.shown.length ≤ sizeLine := Nat.le_trans fd'.long (by decide)
  have lt : ∀ ds, d = .tuple ds → ds.length ≤ 100000 := fun ds e => Nat.le_trans (ld.2 ds e) (by decide)
  have ls : ∀ y, d = .str y → y.length ≤ sizeLine := fun y e => Nat.le_trans (ld.1 y e) (by decide)
  refine ⟨_, rfl, x, d, rfl, sd9, fd'.able, dpt, lng, _, rfl, x, d, rfl, sd9, lt, fun Ha sa => ⟨_, _, rfl, ?_⟩⟩
  have sda := sd9.same sa
  have tba := tb9.same sa
  have end_ : ∀ (Hz : Hp) (v7 v8 : Option V), Sm H9 Hz → Tb Ta Hz → ∃ H09 w5 w6 w7 w8, [some (.ref a), some (.ref dk), some (.int (0 + (i : Nat))), some (.ref pa), some (.ref oa), some x, some (.str d.shown), v7, v8, u9, u10, none, none] = [some (.ref a), some (.ref dk), some (.int (0 + (i : Nat))), some (.ref pa), some (.ref oa), w5, w6, w7, w8, u9, u10, none, none] ∧ DeckAt H09 Hz dk lf (1000 * i + 540) ∧ Tb Ta Hz ∧ Sm H08 H09 :=
    fun Hz v7 v8 sz tz => ⟨noT H09, _, _, _, _, rfl, deck_sm D9 sz, tz, s9.trans (noT_sm H09)⟩
  have neS : ∀ y : Str, (!decide (V.str y = V.str y)) = false := fun y => by rw [decide_eq_true rfl]; rfl
  dsimp only
  refine seq_if (fun σ' H' => σ' = [some (.ref a), some (.ref dk), some (.int (0 + (i : Nat))), some (.ref pa), some (.ref oa), some x, some (.str d.shown), some (.bl (isPolyD d)), v8, u9, u10, none, none] ∧ Same Ha H') ?_ ?_
  · rintro σ' Hb ⟨rfl, sb⟩
    have sdb := sda.same sb
    have tbb := tba.same sb
    refine (seq_to (fun σ' H' => σ' = [some (.ref a), some (.ref dk), some (.int (0 + (i : Nat))), some (.ref pa), some (.ref oa), some x, some (.str d.shown), some (.bl (isPolyD d)), some (.bl (isWordD d)), u9, u10, none, none] ∧ Same Hb H') ?_ ?_ : tSeq _ _ _ _ _)
    · rintro σ' Hc ⟨rfl, sc⟩
      have sdc := sdb.same sc
      have tbc := tbb.same sc
      refine ⟨_, rfl, x, d, rfl, sdc, ls, lt, tbc, fun Hd sd1 td => ⟨_, rfl, x, d, rfl, sdc.sm sd1, ls, lt, td, fun He se te => ⟨_, rfl, x, d, rfl, (sdc.sm sd1).sm se, ls, lt, te, fun Hf sf tf => ⟨_, rfl, x, d, rfl, ((sdc.sm sd1).sm se).sm sf, ls, lt, tf, fun Hg sg tg => ⟨by show 4 ≤ sizeLine; decide, fun p hp => ?_⟩⟩⟩⟩⟩
      have sAll := ((sd1.trans se).trans sf).trans sg
      have b4 : Fine 1 30 (.tuple [.bool (isPolyD d), .bool (isPolyD d), .bool (isWordD d), .bool (isWordD d)]) := (fine_tup (a := 0) (b := 5) fun e he => by
        simp only [List.mem_cons, List.not_mem_nil, or_false] at he
        rcases he with rfl | rfl | rfl | rfl <;> exact fine_bool _).mono (Nat.le_refl _) (by show 4 * (5 + 2) + 2 ≤ 30; decide)
      have d4 : PyData.depth (.tuple [.bool (isPolyD d), .bool (isPolyD d), .bool (isWordD d), .bool (isWordD d)]) ≤ 100 := Nat.le_trans b4.deep (by decide)
      have l4 : (PyData.shown (.tuple [.bool (isPolyD d), .bool (isPolyD d), .bool (isWordD d), .bool (isWordD d)])).length ≤ sizeLine := Nat.le_trans b4.long (by decide)
      refine ⟨_, .tuple [.bool (isPolyD d), .bool (isPolyD d), .bool (isWordD d), .bool (isWordD d)], rfl, Sd.tup upd_same (.cons (.bl _) (.cons (.bl _) (.cons (.bl _) (.cons (.bl _) .nil)))), b4.able, d4, l4, _, rfl, _, rfl, _, rfl, _, rfl, (by show 4 ≤ sizeLine; decide), fun p2 hp2 => ?_⟩
      refine ⟨_, .tuple [.bool (isPolyD d), .bool (isPolyD d), .bool (isWordD d), .bool (isWordD d)], rfl, Sd.tup upd_same (.cons (.bl _) (.cons (.bl _) (.cons (.bl _) (.cons (.bl _) .nil)))), b4.able, d4, l4, ?_⟩
      refine ⟨rfl, false, congrArg V.bl (neS _), iteF ?_⟩
      have sEnd := (sAll.trans (Same.sm (same_new hp (.tup [.bl (isPolyD d), .bl (isPolyD d), .bl (isWordD d), .bl (isWordD d)])))).trans (Same.sm (same_new hp2 (.tup [.bl (isPolyD d), .bl (isPolyD d), .bl (isWordD d), .bl (isWordD d)])))
      have tEnd := (tg.same (same_new hp (.tup [.bl (isPolyD d), .bl (isPolyD d), .bl (isWordD d), .bl (isWordD d)]))).same (same_new hp2 (.tup [.bl (isPolyD d), .bl (isPolyD d), .bl (isWordD d), .bl (isWordD d)]))
      have sEnd9 := (Same.sm ((sa.trans sb).trans sc)).trans sEnd
      refine ⟨_, rfl, x, d, rfl, sd9.sm sEnd9, fd'.able, dpt, lng, _, rfl, rfl, false, congrArg V.bl (neS _), iteF ?_⟩
      exact end_ _ _ _ sEnd9 tEnd
    · intro fin2
      refine ⟨_, rfl, x, d, rfl, sdb, _, rfl, ?_⟩
      cases sdb with
      | str y =>
        refine iteT ?_
        refine ⟨_, rfl, y, rfl, fun D hD => lc_str (fun i H1 => ∃ vs, H1 = upd Hb D (.lst vs) ∧ vs.length ≤ i ∧ vs.isEmpty = ((y.cps.toList.take i).all isLetC)) ⟨[], rfl, Nat.le_refl _, rfl⟩ ?_ ?_⟩
        · rintro i c H1 hc ⟨vs, rfl, hv, hem⟩
          have hi := (List.getElem?_eq_some_iff.mp hc).1
          have hy5 : y.cps.toList.length ≤ 5000 := by have := ld.1 y rfl; rwa [len_toNat] at this
          refine ⟨rfl, ?_⟩
          refine ⟨_, rfl, _, _, rfl, Sd.str _, fun z e => by cases e; show 1 ≤ sizeLine; decide, _, rfl, ?_⟩
          have nx : ((y.cps.toList.take (i + 1)).all isLetC) = (vs.isEmpty && isLetC c) := by
            rw [List.take_add_one, hc, List.all_append, hem]
            simp
          have eL : isLetD (.str ⟨#[c]⟩) = isLetC c := rfl
          rw [eL]
          refine ite2 (fun z => ?_) (fun z => ?_)
          · have z : isLetC c = false := by simpa using z
            exact ⟨_, rfl, vs, upd_same, sl_lt (by omega), vs ++ [.str ⟨#[c]⟩], by rw [upd_upd], by rw [List.length_append]; show vs.length + 1 ≤ _; omega, by rw [nx, z, Bool.and_false]; simp⟩
          · have z : isLetC c = true := by simpa using z
            exact ⟨vs, rfl, by omega, by rw [nx, z, Bool.and_true]⟩
        · rintro H1 ⟨vs, rfl, hv, hem⟩
          refine ⟨Nat.zero_le _, fun l hl => ?_⟩
          have nDl : D ≠ l := ne_of_none upd_same hl
          refine ⟨D, l, vs, rfl, rfl, SqL.of ((upd_ne nDl).trans upd_same), SqL.of upd_same, ?_⟩
          rw [List.take_length] at hem
          refine fin2 _ _ ⟨?_, (same_new hD _).trans (same_new hl _)⟩
          have e : isWordD (.str y) = vs.isEmpty := hem.symm
          rw [e]
          rfl
      | _ => exact iteF (fin2 _ _ ⟨rfl, Same.refl _⟩)
  · intro fin1
    refine ⟨_, rfl, _, rfl, ?_⟩
    refine ite2 (fun c => ?_) (fun c => ?_)
    · obtain ⟨pa', p', ex, hd, hp'⟩ := polyD_of sda c
      have lp' : p'.length ≤ 500 := by
        have := ld.2 _ hd
        rwa [List.length_map] at this
      refine ⟨x, rfl, pa', p', (by show [x] = _; rw [ex]), hp', by omega, fun Hb sb => ⟨_, rfl, ?_⟩⟩
      refine ite2 (fun _ => ?_) (fun _ => ?_)
      · exact end_ _ _ _ (Same.sm (sa.trans sb)) (tba.same sb)
      · exact fin1 _ _ ⟨rfl, sb⟩
    · exact iteF (fin1 _ _ ⟨rfl, Same.refl _⟩)
end
end Zk

set_option maxHeartbeats 2000000
/-! Ki: the end of a law's proof, run from the top, with tables of code objects. -/
namespace Zk
open PySem PySem.Spec PyProof.Rows L2
section
variable {P : Program} {w : World} {K : PySem.W.Frag} {mg : Str → Option Value}
theorem law_topT {mb : Str → Option Value} {fa a : Addr} {fd : FuncData} {x : Str} {sp : Sp} {s : Shared} {vs : List Value} {ns : List Int} {cs : List (Addr × Addr)}
    (KX : K.In s.heap) (hm : s.heap.Ns mainGlobals mg) (hb : s.heap.Ns builtinsNs mb) (hbb : ∀ y : Str, y ≠ "__name__" → mb y = bootBuiltins y) (lim : s.heap.NoLimit) (hg : s.gens = #[])
    (hT : ∀ p ∈ cs, s.heap.get? p.2 = some { cls := .none, data := .fields #[] }) (nT : ∀ p ∈ cs, K.lookup p.2 = none) (C : ∀ p ∈ cs, PySem.W.CodeHd s.heap p.1 p.2)
    (hbm : ∃ (bm : Addr) (ob : Obj), mg "__builtins__" = some (.ref bm) ∧ bm ≠ builtinsNs ∧ s.heap.get? bm = some ob ∧ ob.cls = .type "module" ∧ ob.dict = some builtinsNs ∧ ob.data = .plain)
    (ha : s.heap.get? a = some { cls := .type "list", data := .seq vs.toArray }) (hi : IntsAre vs ns) (hl : ns.length ≤ sizeLine)
    (sys : ∃ mm, s.heap.Ns sysModules mm) (F : ∀ base : Heap, K.In base → base.Ns mainGlobals mg → SysB base → (∀ p ∈ cs, GxR.TabB base mg p.1 p.2) → LawAt P w K mg base fa fd [x] sp) (bind : ∀ (s : Shared) (u : Value), BindsTo s fd ⟨[u], []⟩ [(x, u)])
    (hsp : ∀ H : Hp, (∀ p ∈ cs, H p.2 = some (.tbl #[])) → SqL K H a (ns.map V.int) → sp [.ref a] H (fun v _ => v = .bl true) E0) :
    codeAny (model P w) callerA (.call (.ref fa) ⟨[.ref a], []⟩) (fun r s' => r = .ok (.ret (.bool true)) ∧ OldK s.heap s'.heap ∧ s'.os = s.os ∧ AllBare s'.gens) s := by
  have tabAt : ∀ b, b ∈ cs.map (·.2) → s.heap.get? b = some { cls := .none, data := .fields #[] } := fun b h => by
    obtain ⟨p, hp, e⟩ := List.mem_map.mp h
    exact e ▸ hT p hp
  have inT : ∀ p ∈ cs, p.2 ∈ cs.map (·.2) := fun p hp => List.mem_map.mpr ⟨p, hp, rfl⟩
  have noTa : a ∉ cs.map (·.2) := fun h => by
    have z := tabAt a h
    rw [ha] at z
    cases (show Data.seq vs.toArray _ = Data.fields #[] from congrArg Obj.data (Option.some.inj z))
  -- H tracks the tables, and at most the script
  have go : ∀ H : Hp, (∀ p ∈ cs, H p.2 = some (.tbl #[])) → SqL K H a (ns.map V.int) → HOk P w H s.heap → (∀ b u, H b = some u → b ∈ cs.map (·.2) ∨ (b = a ∧ K.lookup a = none ∧ ∃ o xs, u = .frz o (.lst xs))) →
      codeAny (model P w) callerA (.call (.ref fa) ⟨[.ref a], []⟩) (fun r s' => r = .ok (.ret (.bool true)) ∧ OldK s.heap s'.heap ∧ s'.os = s.os ∧ AllBare s'.gens) s := by
    intro H tabs seq hok lone
    have off : ∀ {b : Addr} {o : Obj}, s.heap.get? b = some o → (∀ ws n, o.data ≠ .seq ws n) → o.data ≠ .fields #[] → H b = none := fun {b o} e h1 h2 => by
      cases q : H b with
      | none => rfl
      | some u =>
        rcases lone b u q with h | ⟨rfl, _⟩
        · rw [tabAt b h] at e
          cases e
          exact absurd rfl h2
        · rw [ha] at e
          cases e
          exact absurd rfl (h1 _ _)
    have stay : ∀ {b : Addr} {m : Str → Option Value}, s.heap.Ns b m → (hidT s.heap H).Ns b m := by
      rintro b m ⟨o, es, ep, ho, hd, r⟩
      refine ⟨o, es, ep, hidT_get ho (off ho (fun ws n z => ?_) fun z => ?_), hd, r⟩
      · rw [hd] at z; cases z
      · rw [hd] at z; cases z
    have kin : K.In (hidT s.heap H) := fun b o hk => by
      refine hidT_get (KX b o hk) ?_
      cases q : H b with
      | none => rfl
      | some u =>
        rcases lone b u q with h | ⟨e, n, _⟩
        · obtain ⟨p, hp, e⟩ := List.mem_map.mp h
          rw [← e, nT p hp] at hk
          cases hk
        · rw [e, n] at hk
          cases hk
    have sysB : SysB (hidT s.heap H) := by
      obtain ⟨mm, hmm⟩ := sys
      obtain ⟨ob, _, _, ho, _⟩ := stay hmm
      exact ⟨ob, ho⟩
    have mod : Mod K mg (hidT s.heap H) := ⟨kin, stay hm, ⟨mb, stay hb, hbb⟩, by obtain ⟨mc, h1, h2⟩ := lim; exact ⟨mc, stay h1, h2⟩⟩
    have TB : ∀ p ∈ cs, GxR.TabB (hidT s.heap H) mg p.1 p.2 := fun p hp => by
      have tp := hT p hp
      refine ⟨?_, ?_, fun z => ?_⟩
      · obtain ⟨o, us, fl, tf, gs, tg, nf, tx, tt, e1, c1, d1, r3, rest⟩ := C p hp
        refine ⟨o, us, fl, tf, gs, tg, nf, tx, tt, hidT_get e1 (off e1 (fun ws n z => ?_) fun z => ?_), c1, d1, r3, rest⟩
        · rw [d1] at z; cases z
        · rw [d1] at z
          cases z
          simp at r3
      · obtain ⟨bm, ob, b1, b2, b3, b4, b5, b6⟩ := hbm
        refine ⟨bm, ob, b1, b2, fun q => ?_, fun q => ?_, hidT_get b3 (off b3 (fun ws n z => ?_) fun z => ?_), b4, b5, b6⟩
        · obtain ⟨o, es, ep, ho, hd, _⟩ := hm
          rw [q, ho] at b3
          cases b3
          rw [hd] at b6
          cases b6
        · rw [q, tp] at b3
          cases b3
          cases b6
        · rw [b6] at z; cases z
        · rw [b6] at z; cases z
      · obtain ⟨o, es, ep, ho, hd, _⟩ := hm
        rw [z, tp] at ho
        cases ho
        cases hd
    have none0 : ∀ b : Addr, b ∉ frs [] := fun b => List.not_mem_nil
    have e0 : Env0 P w K mg (hidT s.heap H) callerA [] s H := ⟨rfl, mod, fun _ _ => of_hidT, by rw [hidT_size] <;> exact Nat.le_refl _, trivial, fun b hb => absurd hb (none0 b), hok, .of_eq hg⟩
    refine codeAny_mono (F _ kin (stay hm) sysB TB s H ⟨[.ref a], []⟩ [.ref a] [.ref a] _ rfl e0 (bind _ _) (.cons rfl .nil) (hsp H tabs seq)) ?_
    intro r s' h
    match r, h with
    | .error e, h => exact False.elim h
    | .ok .next, h => exact False.elim h
    | .ok .brk, h => exact False.elim h
    | .ok .cont, h => exact False.elim h
    | .ok (.ret u), ⟨v, H', os, bare, un, hok', rv, e⟩ =>
      have e : v = .bl true := e
      subst e
      obtain rfl : u = Value.bool true := rv
      have kept : ∀ b o, b ∉ cs.map (·.2) → s.heap.get? b = some o → s'.heap.get? b = some o := fun b o nb hb => by
        cases z : H b with
        | none => exact un.keep b o hb z (none0 b) List.not_mem_nil
        | some u =>
          rcases lone b u z with h | ⟨_, _, ob, xs, rfl⟩
          · exact absurd h nb
          · have h1 := (hok b _ z).1
            rw [hb] at h1
            cases h1
            exact (hok' b _ (un.frzs b _ _ z)).1
      have grown : ∀ p ∈ cs, ∃ more : Array Value, s'.heap.get? p.2 = some { cls := .none, data := .fields more } := fun p hp => by
        obtain ⟨more, z⟩ := un.tbls p.2 #[] (tabs p hp)
        exact ⟨_, hok' p.2 _ z⟩
      refine ⟨rfl, ⟨fun b o hb => ?_, fun b o hb => ?_⟩, os, bare⟩
      · by_cases h : b ∈ cs.map (·.2)
        · obtain ⟨p, hp, rfl⟩ := List.mem_map.mp h
          obtain ⟨more, hm⟩ := grown p hp
          rw [hT p hp] at hb
          cases hb
          exact .inr (.inl ⟨((C p hp).tab (hT p hp)).isCodeTable, rfl, #[], more, rfl, by rw [Array.empty_append]; exact hm⟩)
        · exact .inl (kept b o h hb)
      · by_cases h : b ∈ cs.map (·.2)
        · obtain ⟨p, hp, rfl⟩ := List.mem_map.mp h
          obtain ⟨more, hm⟩ := grown p hp
          exact ⟨_, hm⟩
        · exact ⟨o, kept b o h hb⟩
  have len := hi.length
  let tab0 : Hp := fun b => if b ∈ cs.map (·.2) then some (.tbl #[]) else none
  have okT : ∀ b, b ∈ cs.map (·.2) → ObjOk P w tab0 s.heap b (.tbl #[]) := fun b h => tabAt b h
  cases hk : K.lookup a with
  | some o =>
    have z := KX a o hk
    rw [ha] at z
    cases z
    refine go tab0 (fun p hp => if_pos (inT p hp)) (.inr ⟨_, vs.toArray, _, hk, rfl, rfl, rfl, ?_, by simpa using vals_ints hi⟩) (fun b u z => ?_) fun b u z => ?_
    · simpa [len] using hl
    · by_cases h : b ∈ cs.map (·.2)
      · cases (if_pos h).symm.trans z
        exact tabAt b h
      · cases (if_neg h).symm.trans z
    · by_cases h : b ∈ cs.map (·.2)
      · exact .inl h
      · cases (if_neg h).symm.trans z
  | none =>
    let S : HO := .frz { cls := .type "list", data := .seq vs.toArray } (.lst (ns.map V.int))
    refine go (fun b => if b = a then some S else tab0 b) (fun p hp => ?_) (.inl (.inr ⟨{ cls := .type "list", data := .seq vs.toArray }, if_pos rfl⟩)) (fun b u z => ?_) fun b u z => ?_
    · exact (if_neg fun (e : p.2 = a) => noTa (e ▸ inT p hp)).trans (if_pos (inT p hp))
    · by_cases e : b = a
      · cases (if_pos e).symm.trans z
        subst e
        exact ⟨ha, by simpa using hl, vs, _, vals_ints hi, ha⟩
      · have z := (if_neg e).symm.trans z
        by_cases h : b ∈ cs.map (·.2)
        · cases (if_pos h).symm.trans z
          exact tabAt b h
        · cases (if_neg h).symm.trans z
    · by_cases e : b = a
      · exact .inr ⟨e, hk, _, _, (Option.some.inj ((if_pos e).symm.trans z)).symm⟩
      · have z := (if_neg e).symm.trans z
        by_cases h : b ∈ cs.map (·.2)
        · exact .inl h
        · cases (if_neg h).symm.trans z
end
/-- no table of code objects is written out -/
def isTab (o : Obj) : Bool := match o.cls, o.data with
  | .none, .fields _ => true
  | _, _ => false
theorem find_mem {a : Addr} {o : Obj} : ∀ {l : List (Addr × Obj)}, l.lookup a = some o → (a, o) ∈ l
  | [], h => by cases h
  | (b, u) :: r, h => by
    have h : (match a == b with | true => some u | false => r.lookup a) = some o := h
    cases q : (a == b) with
    | true =>
      rw [q] at h
      cases h
      rw [beq_iff_eq.mp q]
      exact List.mem_cons_self
    | false =>
      rw [q] at h
      exact List.mem_cons_of_mem _ (find_mem h)
theorem no_tab {K : PySem.W.Frag} {h : Heap} {b : Addr} (X : K.In h) (hn : (K.all fun p => !isTab p.2) = true) (e : h.get? b = some { cls := .none, data := .fields #[] }) : K.lookup b = none := by
  cases z : K.lookup b with
  | none => rfl
  | some o =>
    have e1 := X _ _ z
    rw [e] at e1
    cases e1
    have := List.all_eq_true.mp hn _ (find_mem z)
    cases this
/-- a def whose table of code objects is empty at the head -/
theorem funC_tab {q : Program} {loose : List Str} {mean : ExcName → Option Value} {K : PySem.W.Frag} {h : Heap} {mg mb : Str → Option Value} {x : Str} {st : Stmt} {f : Addr} {fd : FuncData} (T : Top q loose mean mg mb h) (X : K.In h) (F : Fun K x x st f fd) (m : mg x = some (.ref f))
    (hr : ((recsOf q).any fun d => d.name == x) = true) : ∃ c pt, FunC K x x st f fd c ∧ PySem.W.CodeHd h c pt ∧ h.get? pt = some { cls := .none, data := .fields #[] } := by
  obtain ⟨d, hd, e⟩ := List.any_eq_true.mp hr
  obtain ⟨a, o, fd2, c, pt, h1, h2, h3, h4, h5, h6⟩ := T.tab d hd
  have e : d.name = x := beq_iff_eq.mp e
  rw [e, m] at h1
  cases h1
  obtain ⟨oc, od, kV, doc, pm, an, cdv, ct, osl, rfl, lk, hcd⟩ := F.ex
  have z := X _ _ lk
  rw [h2] at z
  cases z
  cases h3
  have h4 : cdv = .ref c := h4
  subst h4
  exact ⟨c, pt, ⟨⟨oc, od, kV, doc, pm, an, ct, osl, rfl, lk, hcd⟩, F.kp⟩, .of h5 h6, h6.2⟩
/-- what is known at the head's heap -/
def TopAt (l : PySem.W.OpenLaw) (w : World) (K : PySem.W.Frag) (n : Nat) (x : Str) (mg : Str → Option Value) (fa : Addr) (h : Heap) : Prop :=
  ∃ (fd : FuncData) (cs : List (Addr × Addr)) (sp : Sp), (∀ p ∈ cs, h.get? p.2 = some { cls := .none, data := .fields #[] }) ∧ (∀ p ∈ cs, K.lookup p.2 = none) ∧ (∀ p ∈ cs, PySem.W.CodeHd h p.1 p.2) ∧ (∀ (s : Shared) (u : Value), BindsTo s fd ⟨[u], []⟩ [(x, u)]) ∧
    (∀ (H : Hp) (a : Addr) (ns : List Int), ns.length ≤ n → (∀ p ∈ cs, H p.2 = some (.tbl #[])) → SqL K H a (ns.map V.int) → sp [.ref a] H (fun v _ => v = .bl true) E0) ∧
    ∀ base : Heap, K.In base → base.Ns mainGlobals mg → SysB base → (∀ p ∈ cs, GxR.TabB base mg p.1 p.2) → LawAt l.prog w K mg base fa fd [x] sp
theorem walk_topT {l : PySem.W.OpenLaw} {n : Nat} {q : Program} {loose : List Str} {XP : (Str → Option Value) → Heap → Prop} {YP : World → Heap → Prop} {d : DefRec} {K : Params → PySem.W.Frag} {x : Str}
    (hn : l.most = some n) (hn2 : n ≤ sizeLine) (hdf : d.params.defaults = []) (himp : importsNone q = true) (hY : ∀ (w : World) (h : Heap), YP w h → (K w.params).In h)
    (F : ∀ (w : World) (mean : ExcName → Option Value) (mg mb : Str → Option Value) (fa : Addr) (h : Heap), (K w.params).In h → Top q (PySem.W.looseW q loose) mean mg mb h → mg d.name = some (.ref fa) → TopAt l w (K w.params) n x mg fa h) :
    PySem.W.WalkO q loose XP YP l.row.toRowW d [] (fun f vs => PySem.call f vs) := by
  refine Att.attach_callB hn hdf ?_
  intro w _ s mg mb fa _ _ _ _ a vs ns G Y _ _ _ hmg hobj hints hlen hbits hg
  obtain ⟨fd, cs, sp, hT, nT, C, hb, hsp, hF⟩ := F w _ mg mb fa _ (hY w _ Y) G.T hmg
  exact law_topT (hY w _ Y) G.T.g G.T.b G.T.builtins G.T.nolimit hg hT nT C G.T.bmain hobj hints (Nat.le_trans hlen hn2) (let ⟨mm, e, _⟩ := (G.T.seer himp).mods; ⟨mm, e⟩) hF hb fun H hH hS => hsp H a ns hlen hH hS
end Zk

set_option maxHeartbeats 4000000
/-! Kj: what the program's top has written, gathered. (written by genKj.py) -/
namespace Zk
open PySem PySem.Spec PyProof.Rows L2 GxR
open PySem.W (keepIn nsIn)
/-- a def of the top -/
structure DefF (K : PySem.W.Frag) (x : Str) (st : Stmt) (f : Addr) : Prop where
  a : nsIn K mainGlobals x = some (some (.ref f))
  fn : ∃ fd, Fun K x x st f fd
theorem defF_mk {K : PySem.W.Frag} {x : Str} {st : Stmt} {f : Addr} {od an : Option Addr} {sl : Array (Option Value)} {oc kV dc pm cd ct : Value} (a : nsIn K mainGlobals x = some (some (.ref f)))
    (l : K.lookup f = some ⟨oc, od, .func (PySem.W.fnOf x x (defArgs st) (defBody st) (defScope st) .none kV dc pm an cd ct), sl⟩) (c : PySem.W.codeIn K cd x = true) (k : keepIn K (.ref f) = true) : DefF K x st f := ⟨a, _, fun_mk l c k⟩
section
variable {P : Program} {w : World} {K : PySem.W.Frag} {mg : Str → Option Value} {base : Heap} {f : Addr} {fd : FuncData}
theorem any_all (F : Fun K "_law_any" "_law_any" sAny f fd) (T : Blt mg) (bF : Binds K fd ["deck", "deep"] []) (mF : mg "_law_any" = some (.ref f)) (C1 : Call1 P w K mg base "_law_draw" 1 ["deck", "many"] spDraw) (C2 : Call1 P w K mg base "_law_pick" 2 ["deck", "some"] spPick) :
    ∀ n, FnOk P w K mg base CX0 (n + 4) f fd ["deck", "deep"] (spAny n)
  | 0 => ok_any (n := 0) F T bF mF C1 C2 ⟨fun _ _ _ _ h => absurd h.1 (Nat.lt_irrefl 0), fun _ _ _ _ _ _ _ _ _ _ _ _ _ h => absurd h.1 (Nat.lt_irrefl 0)⟩
  | n + 1 => ok_any (n := n + 1) F T bF mF C1 C2 ((any_all F T bF mF C1 C2 n).imp fun _ _ _ _ h => h.2)
theorem bent_all (F : Fun K "_law_bent" "_law_bent" sBent f fd) (T : Blt2 mg) (bF : Binds K fd ["deck", "thing", "deep"] []) (mF : mg "_law_bent" = some (.ref f)) (C1 : Call1 P w K mg base "_law_draw" 1 ["deck", "many"] spDraw) (C2 : Call1 P w K mg base "_law_pick" 2 ["deck", "some"] spPick)
    (C3 : Call1 P w K mg base "_law_any" 6 ["deck", "deep"] (spAny 2)) (C4 : Call1 P w K mg base "_law_is_integer" 1 ["thing"] (spD isIntD)) (C5 : Call1 P w K mg base "_law_instead" 1 ["some", "at", "item"] spInst) :
    ∀ n, FnOk P w K mg base CX0 (n + 7) f fd ["deck", "thing", "deep"] (spBent n)
  | 0 => ok_bent (k := 0) F T bF mF C1 C2 C3 C4 C5 ⟨fun _ _ _ _ h => absurd h.1 (Nat.lt_irrefl 0), fun _ _ _ _ _ _ _ _ _ _ _ _ _ h => absurd h.1 (Nat.lt_irrefl 0)⟩
  | n + 1 => ok_bent (k := n + 1) F T bF mF C1 C2 C3 C4 C5 ((bent_all F T bF mF C1 C2 C3 C4 C5 n).imp fun _ _ _ _ h => h.2)
theorem spo_all (F : Fun K "_law_spoilt" "_law_spoilt" sSpo f fd) (T : Blt2 mg) (bF : Binds K fd ["deck", "thing"] []) (mF : mg "_law_spoilt" = some (.ref f)) (C1 : Call1 P w K mg base "_law_draw" 1 ["deck", "many"] spDraw) (C2 : Call1 P w K mg base "_law_pick" 2 ["deck", "some"] spPick)
    (C3 : Call1 P w K mg base "_law_bent" 8 ["deck", "thing", "deep"] (spBent 1)) (C4 : Call1 P w K mg base "_law_is_integer" 1 ["thing"] (spD isIntD)) (C5 : Call1 P w K mg base "_law_instead" 1 ["some", "at", "item"] spInst) :
    ∀ n, FnOk P w K mg base CX0 (n + 9) f fd ["deck", "thing"] (spSpo n)
  | 0 => ok_spo (n := 0) F T bF mF C1 C2 C3 C4 C5 ⟨fun _ _ _ _ h => absurd h.1 (Nat.lt_irrefl 0), fun _ _ _ _ _ _ _ _ _ _ _ _ _ h => absurd h.1 (Nat.lt_irrefl 0)⟩
  | n + 1 => ok_spo (n := n + 1) F T bF mF C1 C2 C3 C4 C5 ((spo_all F T bF mF C1 C2 C3 C4 C5 n).imp fun _ _ _ _ h => h.2)
end
theorem all_mk {l : PySem.W.OpenLaw} {q : Program} {loose : List Str} {mean : ExcName → Option Value} {w : World} {K : PySem.W.Frag} {h : Heap} {mg mb : Str → Option Value} {fa : Addr} (X : K.In h) (T0 : Top q loose mean mg mb h) (hfa : mg "law" = some (.ref fa)) (hn : (K.all fun p => !isTab p.2) = true)
    (q1 : ((recsOf q).any fun d => d.name == ("is_ascending" : Str)) = true) (q2 : ((recsOf q).any fun d => d.name == ("is_word" : Str)) = true) (q3 : ((recsOf q).any fun d => d.name == ("is_poly" : Str)) = true)
    {f_sDeck : Addr} (d_sDeck : DefF K "_law_deck" sDeck f_sDeck)
    {f_sDraw : Addr} (d_sDraw : DefF K "_law_draw" sDraw f_sDraw)
    {f_sPick : Addr} (d_sPick : DefF K "_law_pick" sPick f_sPick)
    {f_sLInt : Addr} (d_sLInt : DefF K "_law_is_integer" sLInt f_sLInt)
    {f_sAny : Addr} (d_sAny : DefF K "_law_any" sAny f_sAny)
    {f_sInst : Addr} (d_sInst : DefF K "_law_instead" sInst f_sInst)
    {f_sBent : Addr} (d_sBent : DefF K "_law_bent" sBent f_sBent)
    {f_sLPoly : Addr} (d_sLPoly : DefF K "_law_is_poly" sLPoly f_sLPoly)
    {f_sLLow : Addr} (d_sLLow : DefF K "_law_is_low" sLLow f_sLLow)
    {f_sDPoly : Addr} (d_sDPoly : DefF K "_law_drawn_poly" sDPoly f_sDPoly)
    {f_sLVal : Addr} (d_sLVal : DefF K "_law_value" sLVal f_sLVal)
    {f_sLLet : Addr} (d_sLLet : DefF K "_law_is_letter" sLLet f_sLLet)
    {f_sSpo : Addr} (d_sSpo : DefF K "_law_spoilt" sSpo f_sSpo)
    {f_sLAdd : Addr} (d_sLAdd : DefF K "_law_added" sLAdd f_sLAdd)
    {f_sLProd : Addr} (d_sLProd : DefF K "_law_product" sLProd f_sLProd)
    {f_sNear : Addr} (d_sNear : DefF K "_law_near" sNear f_sNear)
    {f_sDStr : Addr} (d_sDStr : DefF K "_law_drawn_string" sDStr f_sDStr)
    {f_sLaw : Addr} (d_sLaw : DefF K "law" sLaw f_sLaw)
    {f_sIsInt : Addr} (d_sIsInt : DefF K "is_integer" sIsInt f_sIsInt)
    {f_sIsLet : Addr} (d_sIsLet : DefF K "is_letter" sIsLet f_sIsLet)
    {f_sIsAsc : Addr} (d_sIsAsc : DefF K "is_ascending" sIsAsc f_sIsAsc)
    {f_sIsWord : Addr} (d_sIsWord : DefF K "is_word" sIsWord f_sIsWord)
    {f_sIsPoly : Addr} (d_sIsPoly : DefF K "is_poly" sIsPoly f_sIsPoly)
    {f_sIsPair : Addr} (d_sIsPair : DefF K "is_pair" sIsPair f_sIsPair)
    {f_sValue : Addr} (d_sValue : DefF K "value_at" sValue f_sValue)
    {f_sPow : Addr} (d_sPow : DefF K "power_of" sPow f_sPow)
    {f_sSum : Addr} (d_sSum : DefF K "sum_of" sSum f_sSum)
    {f_sProd : Addr} (d_sProd : DefF K "product_of" sProd f_sProd)
    {f_sCheck : Addr} (d_sCheck : DefF K "check_both" sCheck f_sCheck)
    {f_sGath : Addr} (d_sGath : DefF K "gathered" sGath f_sGath)
    (z_int : nsIn K mainGlobals "int" = some none)
    (z_list : nsIn K mainGlobals "list" = some none)
    (z_max : nsIn K mainGlobals "max" = some none)
    (z_len : nsIn K mainGlobals "len" = some none)
    (z_range : nsIn K mainGlobals "range" = some none)
    (z_tuple : nsIn K mainGlobals "tuple" = some none)
    (z_repr : nsIn K mainGlobals "repr" = some none)
    (z_isinstance : nsIn K mainGlobals "isinstance" = some none)
    (z_bool : nsIn K mainGlobals "bool" = some none)
    (z_str : nsIn K mainGlobals "str" = some none)
    (z_all : nsIn K mainGlobals "all" = some none)
    (z_sum : nsIn K mainGlobals "sum" = some none)
    (z_sorted : nsIn K mainGlobals "sorted" = some none)
    (z_min : nsIn K mainGlobals "min" = some none)
    : TopAt l w K 63 "script" mg fa h := by
  have G := T0.g
  have mz : ∀ {x : Str}, nsIn K mainGlobals x = some none → mg x = none := fun z => PySem.W.mg_none_of X G z
  have T1 : Blt mg := ⟨mz z_int, mz z_list, mz z_max, mz z_len, mz z_range, mz z_tuple, mz z_repr⟩
  have T : Blt2 mg := ⟨T1, mz z_isinstance, mz z_bool, mz z_str, mz z_all, mz z_sum, mz z_sorted, mz z_min⟩
  have e := hfa.symm.trans (PySem.W.mg_of X G d_sLaw.a)
  cases e
  obtain ⟨fd_sDeck, F_sDeck⟩ := d_sDeck.fn
  have b_sDeck : Binds K fd_sDeck ["script", "seed"] [] := F_sDeck.binds fun _ _ _ _ _ _ us hl => match us, hl with | [_, _], _ => rfl
  have m_sDeck := PySem.W.mg_of X G d_sDeck.a
  obtain ⟨fd_sDraw, F_sDraw⟩ := d_sDraw.fn
  have b_sDraw : Binds K fd_sDraw ["deck", "many"] [] := F_sDraw.binds fun _ _ _ _ _ _ us hl => match us, hl with | [_, _], _ => rfl
  have m_sDraw := PySem.W.mg_of X G d_sDraw.a
  obtain ⟨fd_sPick, F_sPick⟩ := d_sPick.fn
  have b_sPick : Binds K fd_sPick ["deck", "some"] [] := F_sPick.binds fun _ _ _ _ _ _ us hl => match us, hl with | [_, _], _ => rfl
  have m_sPick := PySem.W.mg_of X G d_sPick.a
  obtain ⟨fd_sLInt, F_sLInt⟩ := d_sLInt.fn
  have b_sLInt : Binds K fd_sLInt ["thing"] [] := F_sLInt.binds fun _ _ _ _ _ _ us hl => match us, hl with | [_], _ => rfl
  have m_sLInt := PySem.W.mg_of X G d_sLInt.a
  obtain ⟨fd_sAny, F_sAny⟩ := d_sAny.fn
  have b_sAny : Binds K fd_sAny ["deck", "deep"] [] := F_sAny.binds fun _ _ _ _ _ _ us hl => match us, hl with | [_, _], _ => rfl
  have m_sAny := PySem.W.mg_of X G d_sAny.a
  obtain ⟨fd_sInst, F_sInst⟩ := d_sInst.fn
  have b_sInst : Binds K fd_sInst ["some", "at", "item"] [] := F_sInst.binds fun _ _ _ _ _ _ us hl => match us, hl with | [_, _, _], _ => rfl
  have m_sInst := PySem.W.mg_of X G d_sInst.a
  obtain ⟨fd_sBent, F_sBent⟩ := d_sBent.fn
  have b_sBent : Binds K fd_sBent ["deck", "thing", "deep"] [] := F_sBent.binds fun _ _ _ _ _ _ us hl => match us, hl with | [_, _, _], _ => rfl
  have m_sBent := PySem.W.mg_of X G d_sBent.a
  obtain ⟨fd_sLPoly, F_sLPoly⟩ := d_sLPoly.fn
  have b_sLPoly : Binds K fd_sLPoly ["thing"] [] := F_sLPoly.binds fun _ _ _ _ _ _ us hl => match us, hl with | [_], _ => rfl
  have m_sLPoly := PySem.W.mg_of X G d_sLPoly.a
  obtain ⟨fd_sLLow, F_sLLow⟩ := d_sLLow.fn
  have b_sLLow : Binds K fd_sLLow ["poly"] [] := F_sLLow.binds fun _ _ _ _ _ _ us hl => match us, hl with | [_], _ => rfl
  have m_sLLow := PySem.W.mg_of X G d_sLLow.a
  obtain ⟨fd_sDPoly, F_sDPoly⟩ := d_sDPoly.fn
  have b_sDPoly : Binds K fd_sDPoly ["deck", "many", "most"] [] := F_sDPoly.binds fun _ _ _ _ _ _ us hl => match us, hl with | [_, _, _], _ => rfl
  have m_sDPoly := PySem.W.mg_of X G d_sDPoly.a
  obtain ⟨fd_sLVal, F_sLVal⟩ := d_sLVal.fn
  have b_sLVal : Binds K fd_sLVal ["poly", "n"] [] := F_sLVal.binds fun _ _ _ _ _ _ us hl => match us, hl with | [_, _], _ => rfl
  have m_sLVal := PySem.W.mg_of X G d_sLVal.a
  obtain ⟨fd_sLLet, F_sLLet⟩ := d_sLLet.fn
  have b_sLLet : Binds K fd_sLLet ["thing"] [] := F_sLLet.binds fun _ _ _ _ _ _ us hl => match us, hl with | [_], _ => rfl
  have m_sLLet := PySem.W.mg_of X G d_sLLet.a
  obtain ⟨fd_sSpo, F_sSpo⟩ := d_sSpo.fn
  have b_sSpo : Binds K fd_sSpo ["deck", "thing"] [] := F_sSpo.binds fun _ _ _ _ _ _ us hl => match us, hl with | [_, _], _ => rfl
  have m_sSpo := PySem.W.mg_of X G d_sSpo.a
  obtain ⟨fd_sLAdd, F_sLAdd⟩ := d_sLAdd.fn
  have b_sLAdd : Binds K fd_sLAdd ["pairs"] [] := F_sLAdd.binds fun _ _ _ _ _ _ us hl => match us, hl with | [_], _ => rfl
  have m_sLAdd := PySem.W.mg_of X G d_sLAdd.a
  obtain ⟨fd_sLProd, F_sLProd⟩ := d_sLProd.fn
  have b_sLProd : Binds K fd_sLProd ["one", "other"] [] := F_sLProd.binds fun _ _ _ _ _ _ us hl => match us, hl with | [_, _], _ => rfl
  have m_sLProd := PySem.W.mg_of X G d_sLProd.a
  obtain ⟨fd_sNear, F_sNear⟩ := d_sNear.fn
  have b_sNear : Binds K fd_sNear ["deck", "poly"] [] := F_sNear.binds fun _ _ _ _ _ _ us hl => match us, hl with | [_, _], _ => rfl
  have m_sNear := PySem.W.mg_of X G d_sNear.a
  obtain ⟨fd_sDStr, F_sDStr⟩ := d_sDStr.fn
  have b_sDStr : Binds K fd_sDStr ["deck"] [] := F_sDStr.binds fun _ _ _ _ _ _ us hl => match us, hl with | [_], _ => rfl
  have m_sDStr := PySem.W.mg_of X G d_sDStr.a
  obtain ⟨fd_sLaw, F_sLaw⟩ := d_sLaw.fn
  have b_sLaw : Binds K fd_sLaw ["script"] [] := F_sLaw.binds fun _ _ _ _ _ _ us hl => match us, hl with | [_], _ => rfl
  have m_sLaw := PySem.W.mg_of X G d_sLaw.a
  obtain ⟨fd_sIsInt, F_sIsInt⟩ := d_sIsInt.fn
  have b_sIsInt : Binds K fd_sIsInt ["thing"] [] := F_sIsInt.binds fun _ _ _ _ _ _ us hl => match us, hl with | [_], _ => rfl
  have m_sIsInt := PySem.W.mg_of X G d_sIsInt.a
  obtain ⟨fd_sIsLet, F_sIsLet⟩ := d_sIsLet.fn
  have b_sIsLet : Binds K fd_sIsLet ["thing"] [] := F_sIsLet.binds fun _ _ _ _ _ _ us hl => match us, hl with | [_], _ => rfl
  have m_sIsLet := PySem.W.mg_of X G d_sIsLet.a
  obtain ⟨fd_sIsAsc, F_sIsAsc⟩ := d_sIsAsc.fn
  have b_sIsAsc : Binds K fd_sIsAsc ["items"] [] := F_sIsAsc.binds fun _ _ _ _ _ _ us hl => match us, hl with | [_], _ => rfl
  have m_sIsAsc := PySem.W.mg_of X G d_sIsAsc.a
  obtain ⟨fd_sIsWord, F_sIsWord⟩ := d_sIsWord.fn
  have b_sIsWord : Binds K fd_sIsWord ["thing"] [] := F_sIsWord.binds fun _ _ _ _ _ _ us hl => match us, hl with | [_], _ => rfl
  have m_sIsWord := PySem.W.mg_of X G d_sIsWord.a
  obtain ⟨fd_sIsPoly, F_sIsPoly⟩ := d_sIsPoly.fn
  have b_sIsPoly : Binds K fd_sIsPoly ["thing"] [] := F_sIsPoly.binds fun _ _ _ _ _ _ us hl => match us, hl with | [_], _ => rfl
  have m_sIsPoly := PySem.W.mg_of X G d_sIsPoly.a
  obtain ⟨fd_sIsPair, F_sIsPair⟩ := d_sIsPair.fn
  have b_sIsPair : Binds K fd_sIsPair ["thing"] [] := F_sIsPair.binds fun _ _ _ _ _ _ us hl => match us, hl with | [_], _ => rfl
  have m_sIsPair := PySem.W.mg_of X G d_sIsPair.a
  obtain ⟨fd_sValue, F_sValue⟩ := d_sValue.fn
  have b_sValue : Binds K fd_sValue ["poly", "number"] [] := F_sValue.binds fun _ _ _ _ _ _ us hl => match us, hl with | [_, _], _ => rfl
  have m_sValue := PySem.W.mg_of X G d_sValue.a
  obtain ⟨fd_sPow, F_sPow⟩ := d_sPow.fn
  have b_sPow : Binds K fd_sPow ["number", "exponent"] [] := F_sPow.binds fun _ _ _ _ _ _ us hl => match us, hl with | [_, _], _ => rfl
  have m_sPow := PySem.W.mg_of X G d_sPow.a
  obtain ⟨fd_sSum, F_sSum⟩ := d_sSum.fn
  have b_sSum : Binds K fd_sSum ["poly", "other"] [] := F_sSum.binds fun _ _ _ _ _ _ us hl => match us, hl with | [_, _], _ => rfl
  have m_sSum := PySem.W.mg_of X G d_sSum.a
  obtain ⟨fd_sProd, F_sProd⟩ := d_sProd.fn
  have b_sProd : Binds K fd_sProd ["poly", "other"] [] := F_sProd.binds fun _ _ _ _ _ _ us hl => match us, hl with | [_, _], _ => rfl
  have m_sProd := PySem.W.mg_of X G d_sProd.a
  obtain ⟨fd_sCheck, F_sCheck⟩ := d_sCheck.fn
  have b_sCheck : Binds K fd_sCheck ["poly", "other"] [] := F_sCheck.binds fun _ _ _ _ _ _ us hl => match us, hl with | [_, _], _ => rfl
  have m_sCheck := PySem.W.mg_of X G d_sCheck.a
  obtain ⟨fd_sGath, F_sGath⟩ := d_sGath.fn
  have b_sGath : Binds K fd_sGath ["pairs"] [] := F_sGath.binds fun _ _ _ _ _ _ us hl => match us, hl with | [_], _ => rfl
  have m_sGath := PySem.W.mg_of X G d_sGath.a
  obtain ⟨c1, t1, FC1, h1, e1⟩ := funC_tab T0 X F_sIsAsc m_sIsAsc q1
  obtain ⟨c2, t2, FC2, h2, e2⟩ := funC_tab T0 X F_sIsWord m_sIsWord q2
  obtain ⟨c3, t3, FC3, h3, e3⟩ := funC_tab T0 X F_sIsPoly m_sIsPoly q3
  have each : ∀ {Z : Addr × Addr → Prop}, Z (c1, t1) → Z (c2, t2) → Z (c3, t3) → ∀ p ∈ [(c1, t1), (c2, t2), (c3, t3)], Z p := fun a b c p hp => by
    simp only [List.mem_cons, List.not_mem_nil, or_false] at hp
    rcases hp with rfl | rfl | rfl
    · exact a
    · exact b
    · exact c
  refine ⟨fd_sLaw, [(c1, t1), (c2, t2), (c3, t3)], spLaw K [t1, t2, t3], each e1 e2 e3, each (no_tab X hn e1) (no_tab X hn e2) (no_tab X hn e3), each h1 h2 h3, ?_, ?_, fun base _ _ sys TB => ?_⟩
  · intro s u
    obtain ⟨_, _, _, _, _, _, _, _, _, rfl, _⟩ := F_sLaw.ex
    exact .of_eq rfl
  · intro H a ns hlen tabs hS
    have tg : ∀ p ∈ [(c1, t1), (c2, t2), (c3, t3)], TabG H p.2 := fun p hp => ⟨#[], tabs p hp, by trivial⟩
    refine ⟨a, ns, rfl, hS, hlen, fun z hz => ?_, fun _ => rfl⟩
    simp only [List.mem_cons, List.not_mem_nil, or_false] at hz
    rcases hz with rfl | rfl | rfl
    · exact tg (c1, _) (by simp)
    · exact tg (c2, _) (by simp)
    · exact tg (c3, _) (by simp)
  have TB1 := TB (c1, t1) (by simp)
  have TB2 := TB (c2, t2) (by simp)
  have TB3 := TB (c3, t3) (by simp)
  have Kdeck : Call1 l.prog w K mg base "_law_deck" 1 ["script", "seed"] (spDeck K) := ⟨_, _, ok_deck F_sDeck T1, b_sDeck, F_sDeck.kp, m_sDeck⟩
  have Kdraw : Call1 l.prog w K mg base "_law_draw" 1 ["deck", "many"] spDraw := ⟨_, _, ok_draw F_sDraw T1, b_sDraw, F_sDraw.kp, m_sDraw⟩
  have Kpick : Call1 l.prog w K mg base "_law_pick" 2 ["deck", "some"] spPick := ⟨_, _, ok_pick F_sPick T1 Kdraw, b_sPick, F_sPick.kp, m_sPick⟩
  have Kany : Call1 l.prog w K mg base "_law_any" 6 ["deck", "deep"] (spAny 2) := ⟨_, _, any_all F_sAny T1 b_sAny m_sAny Kdraw Kpick 2, b_sAny, F_sAny.kp, m_sAny⟩
  have Klint : Call1 l.prog w K mg base "_law_is_integer" 1 ["thing"] (spD isIntD) := ⟨_, _, ok_lInt F_sLInt T, b_sLInt, F_sLInt.kp, m_sLInt⟩
  have Kinst : Call1 l.prog w K mg base "_law_instead" 1 ["some", "at", "item"] spInst := ⟨_, _, ok_inst F_sInst, b_sInst, F_sInst.kp, m_sInst⟩
  have Kbent : Call1 l.prog w K mg base "_law_bent" 8 ["deck", "thing", "deep"] (spBent 1) := ⟨_, _, bent_all F_sBent T b_sBent m_sBent Kdraw Kpick Kany Klint Kinst 1, b_sBent, F_sBent.kp, m_sBent⟩
  have Kspo : Call1 l.prog w K mg base "_law_spoilt" 11 ["deck", "thing"] (spSpo 2) := ⟨_, _, spo_all F_sSpo T b_sSpo m_sSpo Kdraw Kpick Kbent Klint Kinst 2, b_sSpo, F_sSpo.kp, m_sSpo⟩
  have Knear : Call1 l.prog w K mg base "_law_near" 12 ["deck", "poly"] spNear := ⟨_, _, ok_near F_sNear T Kdraw Kpick Kspo, b_sNear, F_sNear.kp, m_sNear⟩
  have Kdstr : Call1 l.prog w K mg base "_law_drawn_string" 3 ["deck"] spDStr := ⟨_, _, ok_dstr F_sDStr T Kdraw Kpick, b_sDStr, F_sDStr.kp, m_sDStr⟩
  have Kdpoly : Call1 l.prog w K mg base "_law_drawn_poly" 3 ["deck", "many", "most"] spDPoly := ⟨_, _, ok_dpoly F_sDPoly T Kdraw Kpick, b_sDPoly, F_sDPoly.kp, m_sDPoly⟩
  have Klpoly : Call1 l.prog w K mg base "_law_is_poly" 2 ["thing"] (spLs isPolyD) := ⟨_, _, ok_lPoly F_sLPoly T Klint, b_sLPoly, F_sLPoly.kp, m_sLPoly⟩
  have Klow : Call1 l.prog w K mg base "_law_is_low" 1 ["poly"] spLow := ⟨_, _, ok_lLow F_sLLow T, b_sLLow, F_sLLow.kp, m_sLLow⟩
  have Kllet : Call1 l.prog w K mg base "_law_is_letter" 1 ["thing"] spLet := ⟨_, _, ok_lLet F_sLLet T, b_sLLet, F_sLLet.kp, m_sLLet⟩
  have Klval : Call1 l.prog w K mg base "_law_value" 1 ["poly", "n"] spLVal := ⟨_, _, ok_lVal F_sLVal T, b_sLVal, F_sLVal.kp, m_sLVal⟩
  have Kladd : Call1 l.prog w K mg base "_law_added" 1 ["pairs"] (spLAdd K) := ⟨_, _, ok_lAdd F_sLAdd T, b_sLAdd, F_sLAdd.kp, m_sLAdd⟩
  have Klprod : Call1 l.prog w K mg base "_law_product" 2 ["one", "other"] spLProd := ⟨_, _, ok_lProd F_sLProd T Kladd, b_sLProd, F_sLProd.kp, m_sLProd⟩
  have Kint : Call1 l.prog w K mg base "is_integer" 1 ["thing"] (spD isIntD) := ⟨_, _, ok_isInt F_sIsInt T, b_sIsInt, F_sIsInt.kp, m_sIsInt⟩
  have Klet : Call1 l.prog w K mg base "is_letter" 1 ["thing"] spLet := ⟨_, _, ok_isLet F_sIsLet T, b_sIsLet, F_sIsLet.kp, m_sIsLet⟩
  have Kpair : Call1 l.prog w K mg base "is_pair" 2 ["thing"] (spD isPairD) := ⟨_, _, ok_isPair F_sIsPair T Kint, b_sIsPair, F_sIsPair.kp, m_sIsPair⟩
  have Kasc : Call1 l.prog w K mg base "is_ascending" 2 ["items"] (spAsc [t1, t2, t3]) := ⟨_, _, ok_isAsc FC1 TB1 (by simp) T, b_sIsAsc, F_sIsAsc.kp, m_sIsAsc⟩
  have Kword : Call1 l.prog w K mg base "is_word" 3 ["thing"] (spL [t1, t2, t3] isWordD) := ⟨_, _, ok_isWord FC2 TB2 (by simp) T Klet, b_sIsWord, F_sIsWord.kp, m_sIsWord⟩
  have Kpoly : Call1 l.prog w K mg base "is_poly" 4 ["thing"] (spL [t1, t2, t3] isPolyD) := ⟨_, _, ok_isPoly FC3 TB3 (by simp) T Kpair Kasc, b_sIsPoly, F_sIsPoly.kp, m_sIsPoly⟩
  have Kpow : Call1 l.prog w K mg base "power_of" 1 ["number", "exponent"] spPow := ⟨_, _, ok_pow F_sPow, b_sPow, F_sPow.kp, m_sPow⟩
  have Kval : Call1 l.prog w K mg base "value_at" 5 ["poly", "number"] (spValue [t1, t2, t3]) := ⟨_, _, ok_value F_sValue T Kpoly Kint Kpow, b_sValue, F_sValue.kp, m_sValue⟩
  have Kcheck : Call1 l.prog w K mg base "check_both" 5 ["poly", "other"] (spCheck [t1, t2, t3]) := ⟨_, _, ok_check F_sCheck Kpoly, b_sCheck, F_sCheck.kp, m_sCheck⟩
  have Kgath : Call1 l.prog w K mg base "gathered" 1 ["pairs"] spGath := ⟨_, _, ok_gath F_sGath T, b_sGath, F_sGath.kp, m_sGath⟩
  have Ksum : Call1 l.prog w K mg base "sum_of" 6 ["poly", "other"] (spTwo [t1, t2, t3] fun p r => p ++ r) := ⟨_, _, ok_sum F_sSum T Kcheck Kgath, b_sSum, F_sSum.kp, m_sSum⟩
  have Kprod : Call1 l.prog w K mg base "product_of" 6 ["poly", "other"] (spTwo [t1, t2, t3] mulP) := ⟨_, _, ok_prod F_sProd T Kcheck Kgath, b_sProd, F_sProd.kp, m_sProd⟩
  have kpoly : KBinds K fd_sIsPoly ["thing"] ["thing"] kg1 kv1 := by
    obtain ⟨_, _, _, _, _, _, _, _, _, rfl, _⟩ := F_sIsPoly.ex
    refine ⟨fun s us ws _ hl => ?_, kr1⟩
    cases us with
    | cons _ _ => cases hl
    | nil =>
      match ws, hl with
      | [_], _ => exact .of_eq rfl
  have kword : KBinds K fd_sIsWord ["thing"] ["thing"] kg1 kv1 := by
    obtain ⟨_, _, _, _, _, _, _, _, _, rfl, _⟩ := F_sIsWord.ex
    refine ⟨fun s us ws _ hl => ?_, kr1⟩
    cases us with
    | cons _ _ => cases hl
    | nil =>
      match ws, hl with
      | [_], _ => exact .of_eq rfl
  have kval : KBinds K fd_sValue ["poly", "number"] ["number", "poly"] kg2 kv2 := by
    obtain ⟨_, _, _, _, _, _, _, _, _, rfl, _⟩ := F_sValue.ex
    refine ⟨fun s us ws _ hl => ?_, kr2⟩
    cases us with
    | cons _ _ => cases hl
    | nil =>
      match ws, hl with
      | [_, _], _ => exact .of_eq rfl
  have kval1 : KBinds K fd_sValue ["poly", "number"] ["poly", "number"] kg3 kv3 := by
    obtain ⟨_, _, _, _, _, _, _, _, _, rfl, _⟩ := F_sValue.ex
    refine ⟨fun s us ws _ hl => ?_, kr3⟩
    cases us with
    | cons _ _ => cases hl
    | nil =>
      match ws, hl with
      | [_, _], _ => exact .of_eq rfl
  have ksum : KBinds K fd_sSum ["poly", "other"] ["other", "poly"] kg2 kv2 := by
    obtain ⟨_, _, _, _, _, _, _, _, _, rfl, _⟩ := F_sSum.ex
    refine ⟨fun s us ws _ hl => ?_, kr2⟩
    cases us with
    | cons _ _ => cases hl
    | nil =>
      match ws, hl with
      | [_, _], _ => exact .of_eq rfl
  have kprod : KBinds K fd_sProd ["poly", "other"] ["other", "poly"] kg2 kv2 := by
    obtain ⟨_, _, _, _, _, _, _, _, _, rfl, _⟩ := F_sProd.ex
    refine ⟨fun s us ws _ hl => ?_, kr2⟩
    cases us with
    | cons _ _ => cases hl
    | nil =>
      match ws, hl with
      | [_, _], _ => exact .of_eq rfl
  refine ok_law F_sLaw T ⟨Kdeck, Kdraw, Kpick, Kany, Kdpoly, Knear, Kdstr, Klpoly, Klow, Kllet, Klval, Kladd, Klprod, Kpoly, Kword, Kval, Ksum, Kprod, ?_, ?_, ?_, ?_, ?_, ?_, sys⟩
  · exact ⟨_, _, ok_isPoly FC3 TB3 (by simp) T Kpair Kasc, kpoly, F_sIsPoly.kp, m_sIsPoly⟩
  · exact ⟨_, _, ok_isWord FC2 TB2 (by simp) T Klet, kword, F_sIsWord.kp, m_sIsWord⟩
  · exact ⟨_, _, ok_value F_sValue T Kpoly Kint Kpow, kval, F_sValue.kp, m_sValue⟩
  · exact ⟨_, _, ok_value F_sValue T Kpoly Kint Kpow, kval1, F_sValue.kp, m_sValue⟩
  · exact ⟨_, _, ok_sum F_sSum T Kcheck Kgath, ksum, F_sSum.kp, m_sSum⟩
  · exact ⟨_, _, ok_prod F_sProd T Kcheck Kgath, kprod, F_sProd.kp, m_sProd⟩
end Zk

open PySem PySem.W PyProof.Rows in
set_option maxRecDepth 100000 in
set_option maxHeartbeats 0 in
theorem PySem.Challenge.cw_narrowplay_k01_polynomials_values_sums_a_holds : PySem.Challenge.rw_narrowplay_k01_polynomials_values_sums_a.Holds := by
  w_on; o_law; k_head; (case hw => w_witness2)
  k_fill
  refine Zk.walk_topT (l := PySem.Challenge.rw_narrowplay_k01_polynomials_values_sums_a) (n := 63) (x := "script") rfl (by decide) rfl (by decide +kernel) (fun w h Y => PySem.W.kIn_of Y) ?F
  case F =>
    intro w mean mg mb fa h KX T hmg
    refine' Zk.all_mk KX T hmg ?hn ?q1 ?q2 ?q3
      (Zk.defF_mk ?a_sDeck ?l_sDeck ?c_sDeck ?k_sDeck)
      (Zk.defF_mk ?a_sDraw ?l_sDraw ?c_sDraw ?k_sDraw)
      (Zk.defF_mk ?a_sPick ?l_sPick ?c_sPick ?k_sPick)
      (Zk.defF_mk ?a_sLInt ?l_sLInt ?c_sLInt ?k_sLInt)
      (Zk.defF_mk ?a_sAny ?l_sAny ?c_sAny ?k_sAny)
      (Zk.defF_mk ?a_sInst ?l_sInst ?c_sInst ?k_sInst)
      (Zk.defF_mk ?a_sBent ?l_sBent ?c_sBent ?k_sBent)
      (Zk.defF_mk ?a_sLPoly ?l_sLPoly ?c_sLPoly ?k_sLPoly)
      (Zk.defF_mk ?a_sLLow ?l_sLLow ?c_sLLow ?k_sLLow)
      (Zk.defF_mk ?a_sDPoly ?l_sDPoly ?c_sDPoly ?k_sDPoly)
      (Zk.defF_mk ?a_sLVal ?l_sLVal ?c_sLVal ?k_sLVal)
      (Zk.defF_mk ?a_sLLet ?l_sLLet ?c_sLLet ?k_sLLet)
      (Zk.defF_mk ?a_sSpo ?l_sSpo ?c_sSpo ?k_sSpo)
      (Zk.defF_mk ?a_sLAdd ?l_sLAdd ?c_sLAdd ?k_sLAdd)
      (Zk.defF_mk ?a_sLProd ?l_sLProd ?c_sLProd ?k_sLProd)
      (Zk.defF_mk ?a_sNear ?l_sNear ?c_sNear ?k_sNear)
      (Zk.defF_mk ?a_sDStr ?l_sDStr ?c_sDStr ?k_sDStr)
      (Zk.defF_mk ?a_sLaw ?l_sLaw ?c_sLaw ?k_sLaw)
      (Zk.defF_mk ?a_sIsInt ?l_sIsInt ?c_sIsInt ?k_sIsInt)
      (Zk.defF_mk ?a_sIsLet ?l_sIsLet ?c_sIsLet ?k_sIsLet)
      (Zk.defF_mk ?a_sIsAsc ?l_sIsAsc ?c_sIsAsc ?k_sIsAsc)
      (Zk.defF_mk ?a_sIsWord ?l_sIsWord ?c_sIsWord ?k_sIsWord)
      (Zk.defF_mk ?a_sIsPoly ?l_sIsPoly ?c_sIsPoly ?k_sIsPoly)
      (Zk.defF_mk ?a_sIsPair ?l_sIsPair ?c_sIsPair ?k_sIsPair)
      (Zk.defF_mk ?a_sValue ?l_sValue ?c_sValue ?k_sValue)
      (Zk.defF_mk ?a_sPow ?l_sPow ?c_sPow ?k_sPow)
      (Zk.defF_mk ?a_sSum ?l_sSum ?c_sSum ?k_sSum)
      (Zk.defF_mk ?a_sProd ?l_sProd ?c_sProd ?k_sProd)
      (Zk.defF_mk ?a_sCheck ?l_sCheck ?c_sCheck ?k_sCheck)
      (Zk.defF_mk ?a_sGath ?l_sGath ?c_sGath ?k_sGath)
      ?z_int ?z_list ?z_max ?z_len ?z_range ?z_tuple ?z_repr ?z_isinstance ?z_bool ?z_str ?z_all ?z_sum ?z_sorted ?z_min
    (case hn => rfl)
    (case q1 => decide +kernel)
    (case q2 => decide +kernel)
    (case q3 => decide +kernel)
    (case a_sDeck => k_is)
    (case l_sDeck => k_is)
    (case c_sDeck => k_is)
    (case k_sDeck => k_is)
    (case a_sDraw => k_is)
    (case l_sDraw => k_is)
    (case c_sDraw => k_is)
    (case k_sDraw => k_is)
    (case a_sPick => k_is)
    (case l_sPick => k_is)
    (case c_sPick => k_is)
    (case k_sPick => k_is)
    (case a_sLInt => k_is)
    (case l_sLInt => k_is)
    (case c_sLInt => k_is)
    (case k_sLInt => k_is)
    (case a_sAny => k_is)
    (case l_sAny => k_is)
    (case c_sAny => k_is)
    (case k_sAny => k_is)
    (case a_sInst => k_is)
    (case l_sInst => k_is)
    (case c_sInst => k_is)
    (case k_sInst => k_is)
    (case a_sBent => k_is)
    (case l_sBent => k_is)
    (case c_sBent => k_is)
    (case k_sBent => k_is)
    (case a_sLPoly => k_is)
    (case l_sLPoly => k_is)
    (case c_sLPoly => k_is)
    (case k_sLPoly => k_is)
    (case a_sLLow => k_is)
    (case l_sLLow => k_is)
    (case c_sLLow => k_is)
    (case k_sLLow => k_is)
    (case a_sDPoly => k_is)
    (case l_sDPoly => k_is)
    (case c_sDPoly => k_is)
    (case k_sDPoly => k_is)
    (case a_sLVal => k_is)
    (case l_sLVal => k_is)
    (case c_sLVal => k_is)
    (case k_sLVal => k_is)
    (case a_sLLet => k_is)
    (case l_sLLet => k_is)
    (case c_sLLet => k_is)
    (case k_sLLet => k_is)
    (case a_sSpo => k_is)
    (case l_sSpo => k_is)
    (case c_sSpo => k_is)
    (case k_sSpo => k_is)
    (case a_sLAdd => k_is)
    (case l_sLAdd => k_is)
    (case c_sLAdd => k_is)
    (case k_sLAdd => k_is)
    (case a_sLProd => k_is)
    (case l_sLProd => k_is)
    (case c_sLProd => k_is)
    (case k_sLProd => k_is)
    (case a_sNear => k_is)
    (case l_sNear => k_is)
    (case c_sNear => k_is)
    (case k_sNear => k_is)
    (case a_sDStr => k_is)
    (case l_sDStr => k_is)
    (case c_sDStr => k_is)
    (case k_sDStr => k_is)
    (case a_sLaw => k_is)
    (case l_sLaw => k_is)
    (case c_sLaw => k_is)
    (case k_sLaw => k_is)
    (case a_sIsInt => k_is)
    (case l_sIsInt => k_is)
    (case c_sIsInt => k_is)
    (case k_sIsInt => k_is)
    (case a_sIsLet => k_is)
    (case l_sIsLet => k_is)
    (case c_sIsLet => k_is)
    (case k_sIsLet => k_is)
    (case a_sIsAsc => k_is)
    (case l_sIsAsc => k_is)
    (case c_sIsAsc => k_is)
    (case k_sIsAsc => k_is)
    (case a_sIsWord => k_is)
    (case l_sIsWord => k_is)
    (case c_sIsWord => k_is)
    (case k_sIsWord => k_is)
    (case a_sIsPoly => k_is)
    (case l_sIsPoly => k_is)
    (case c_sIsPoly => k_is)
    (case k_sIsPoly => k_is)
    (case a_sIsPair => k_is)
    (case l_sIsPair => k_is)
    (case c_sIsPair => k_is)
    (case k_sIsPair => k_is)
    (case a_sValue => k_is)
    (case l_sValue => k_is)
    (case c_sValue => k_is)
    (case k_sValue => k_is)
    (case a_sPow => k_is)
    (case l_sPow => k_is)
    (case c_sPow => k_is)
    (case k_sPow => k_is)
    (case a_sSum => k_is)
    (case l_sSum => k_is)
    (case c_sSum => k_is)
    (case k_sSum => k_is)
    (case a_sProd => k_is)
    (case l_sProd => k_is)
    (case c_sProd => k_is)
    (case k_sProd => k_is)
    (case a_sCheck => k_is)
    (case l_sCheck => k_is)
    (case c_sCheck => k_is)
    (case k_sCheck => k_is)
    (case a_sGath => k_is)
    (case l_sGath => k_is)
    (case c_sGath => k_is)
    (case k_sGath => k_is)
    (case z_int => k_is)
    (case z_list => k_is)
    (case z_max => k_is)
    (case z_len => k_is)
    (case z_range => k_is)
    (case z_tuple => k_is)
    (case z_repr => k_is)
    (case z_isinstance => k_is)
    (case z_bool => k_is)
    (case z_str => k_is)
    (case z_all => k_is)
    (case z_sum => k_is)
    (case z_sorted => k_is)
    (case z_min => k_is)

