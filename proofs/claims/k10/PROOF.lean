import PyProof.Rows.All
import Wide.All
import OpenK.AllK
import Wide.FinOn
import HandS.ForMost
import HandS.EndBits
import HandS.Wide
import HandS.IsInst
import PyProof.ReprRoads
import PyProof.ReprBulk
import HandS.Zip
import PySem.Challenge.RW_fewturnsover_k10_turns_put_together
set_option Elab.async false
set_option linter.all false
set_option maxRecDepth 100000
set_option maxHeartbeats 4000000
namespace G0
open PySem PySem.Spec PyProof.Rows L2

/-! what repr tells of data of any depth -/
mutual
theorem nodict {K : PySem.W.Frag} {H : Hp} : ∀ (d : PyData) (v : V), Dp K H v d → d.hasDict = false
  | .none, _, _ => by simp [PyData.hasDict]
  | .bool _, _, _ => by simp [PyData.hasDict]
  | .int _, _, _ => by simp [PyData.hasDict]
  | .str _, _, _ => by simp [PyData.hasDict]
  | .list ds, _, h => by
    cases h with
    | lst _ ha => simp only [PyData.hasDict]; exact nodictAll ds _ ha
  | .tuple ds, _, h => by
    cases h with
    | tup _ ha => simp only [PyData.hasDict]; exact nodictAll ds _ ha
  | .dict _, _, h => by cases h
theorem nodictAll {K : PySem.W.Frag} {H : Hp} : ∀ (ds : List PyData) (vs : List V), DpAll K H vs ds → PyData.hasDictAll ds = false
  | [], _, _ => by simp [PyData.hasDictAll]
  | d :: ds, _, h => by
    cases h with
    | cons h1 h2 => simp only [PyData.hasDictAll, nodict d _ h1, nodictAll ds _ h2, Bool.or_self]
end

section
variable {X : Cx}
/-- repr(x) where nothing is being shown around -/
def rRepr (K : PySem.W.Frag) : List V → Hp → VK → Prop := fun xs H Q =>
  ∃ x d, xs = [x] ∧ Dp K H x d ∧ d.showable = true ∧ d.depth ≤ 60 ∧ d.shown.length ≤ sizeLine ∧ Q (.str d.shown) H
theorem call_reprD (gu : X.A.guards = some []) (ro : X.A.units + 64 < cLine) : CallR X (.builtin "repr") (rRepr X.K) := by
  intro pins s σ H xs us Q I rel hyp
  obtain ⟨x, d, rfl, dp, sh, dep, siz, fin⟩ := hyp
  obtain ⟨u, rfl, ru⟩ := vals1 rel
  cases dp with
  | non =>
    cases ru
    rw [PyData.shown_none] at fin
    exact PySem.P.repr_of_none ⟨.str _, H, I.tok _, ⟨_, rfl⟩, fin⟩
  | bl b =>
    cases ru
    rw [PyData.shown_bool] at fin
    exact PySem.P.repr_of_bool ⟨.str _, H, I.tok _, ⟨_, rfl⟩, by cases b <;> exact fin⟩
  | int i =>
    obtain ⟨t, rfl⟩ := ru
    rw [PyData.shown_int] at fin
    exact PySem.P.repr_of_int (by simpa [PyData.showable] using sh) ⟨.str _, H, I.tok _, ⟨_, rfl⟩, fin⟩
  | str z =>
    obtain ⟨t, rfl⟩ := ru
    rw [PyData.shown_str] at fin siz
    exact PySem.P.repr_of_str ⟨.str _, H, I.tok _, ⟨_, rfl⟩, fin⟩ siz
  | lst hs ha =>
    have hd := nodict _ _ (Dp.lst hs ha)
    obtain ⟨as, rd⟩ := Dp.reads I _ _ _ (Dp.lst hs ha) ru
    cases ru
    exact repr_of_reads' rd sh (fun q => absurd (q.symm.trans hd) (by decide)) gu (by omega) (fun _ _ e => e) (fun h' t k keep => ⟨.str _, H, I.kept keep, ⟨_, rfl⟩, fin⟩) siz
  | tup hs ha =>
    have hd := nodict _ _ (Dp.tup hs ha)
    obtain ⟨as, rd⟩ := Dp.reads I _ _ _ (Dp.tup hs ha) ru
    cases ru
    exact repr_of_reads' rd sh (fun q => absurd (q.symm.trans hd) (by decide)) gu (by omega) (fun _ _ e => e) (fun h' t k keep => ⟨.str _, H, I.kept keep, ⟨_, rfl⟩, fin⟩) siz
end
end G0

set_option maxHeartbeats 4000000
namespace G1
open PySem PySem.Spec PyProof.Rows L2

/-- the law's own def, run where nothing is around: its context knows that no repr is under way -/
structure LawDef (P : Program) (w : World) (K : PySem.W.Frag) (mg : Str → Option Value) (k : Nat) (fa : Addr) (x : Str) (want : Hp → Addr → List Int → Prop) : Prop where
  ex : ∃ (fd : FuncData) (nm ql : Str) (pr : Arguments) (bd : List Stmt) (sc : Scope) (dV kV doc pm cdv ct oc : Value) (an od : Option Addr) (osl : Array (Option Value)) (N : List Str),
    fd = PySem.W.fnOf nm ql pr bd sc dV kV doc pm an cdv ct ∧ K.lookup fa = some ⟨oc, od, .func fd, osl⟩ ∧ PySem.W.codeIn K cdv ql = true ∧ FnScope N [x] sc ∧
    (∀ (s : Shared) (u : Value), BindsTo s fd ⟨[u], []⟩ [(x, u)]) ∧
    ∀ base : Heap, K.In base → base.Ns mainGlobals mg → ∀ (s : Shared) (H : Hp) (a : Addr) (ns : List Int), want H a ns →
      Room k (callerA.deeper (envOfC ql sc s.heap.objs.size fa cdv)) →
      ∃ t, PSs (cxOf CX0 P w K mg base N ql sc fa cdv callerA [] s H (fun _ _ _ => False)) bd t ∧ t { nx := fun _ _ => False, rt := fun v _ => v = .bl true } (start N [.ref a]) H

section
variable {P : Program} {w : World} {K : PySem.W.Frag} {mg : Str → Option Value} {k : Nat} {fa : Addr} {x : Str} {want : Hp → Addr → List Int → Prop}
theorem LawDef.run (L : LawDef P w K mg k fa x want) {base : Heap} (hk : K.In base) (hm : base.Ns mainGlobals mg) {s : Shared} {H : Hp} {a : Addr} {ns : List Int} (hw : want H a ns) (ro : Room (k + 1) callerA)
    (e0 : Env0 P w K mg base callerA [] s H) :
    codeAny (model P w) callerA (.call (.ref fa) ⟨[.ref a], []⟩) (CR CX0 [] P w H s (fun v _ => v = .bl true) fun _ _ _ => False) s := by
  obtain ⟨fd, nm, ql, pr, bd, sc, dV, kV, doc, pm, cdv, ct, oc, an, od, osl, N, rfl, at1, cod, S, bnd, bod⟩ := L.ex
  have inS : K.In s.heap := e0.mod.kin.keeps fun b o e => (e0.bs b o e).1
  have noL : s.heap.NoLimit := e0.mod.nolimit.keeps fun b o e => (e0.bs b o e).1
  refine codeAny_call_function ro.depth (inS _ _ at1) rfl S.co S.gen rfl (PySem.W.codeRec_of inS cod) (bnd s (.ref a) _ _ _ _ ?_)
  refine wpAny_newFunctionEnv_cells S.kind (fun ⟨n, v⟩ hy => ?_) fun env he s1 y => ?_
  · have hn : n ∈ [x] := by
      have h1 := List.mem_singleton.mp hy
      rw [(Prod.mk.inj h1).1]
      exact List.mem_singleton.mpr rfl
    rcases S.par n hn with q | q
    · exact Or.inl q
    · exact Or.inr ⟨q, PySem.W.cellsFrom_some _ _ _ (Or.inl q)⟩
  subst he
  refine ⟨noL.keeps y.toInCall.keep, codeAny_func ?_⟩
  obtain ⟨t, pt, tt⟩ := bod base hk hm s H a ns hw (ro.deeper _)
  have I : Inv (cxOf CX0 P w K mg base N ql sc fa cdv callerA [] s H fun _ _ _ => False) [] (start N [.ref a]) H s1 := inv_start S ro.hd e0 rfl (.cons rfl .nil) y
  refine wpAny_mono (pt.run [] s1 _ H _ I tt) (fun fl s2 h2 => ?_) fun e s2 h2 => h2
  cases fl with
  | ret u =>
    obtain ⟨v, σ2, H2, J, rv, q⟩ := h2
    exact ⟨v, H2, J.os, J.bare, J.base, J.hok, rv, q⟩
  | next =>
    obtain ⟨_, _, _, q⟩ := h2
    exact q.elim
  | brk =>
    obtain ⟨_, _, _, q⟩ := h2
    exact q.elim
  | cont =>
    obtain ⟨_, _, _, q⟩ := h2
    exact q.elim
end
end G1

set_option maxHeartbeats 4000000
namespace G2
open PySem PySem.Spec PyProof.Rows L2 G1
section
variable {P : Program} {w : World} {K : PySem.W.Frag} {mg mb : Str → Option Value} {k : Nat} {fa a : Addr} {x : Str} {want : Hp → Addr → List Int → Prop} {S0 : Shared} {vs : List Value} {ns : List Int}
theorem not_in_nil {α : Type} {b : α} {p : Prop} (h : b ∈ ([] : List α)) : p := absurd h List.not_mem_nil
/-- from the run to what a row asks of it -/
theorem told_true {H : Hp} (fz : Only H) (hok : HOk P w H S0.heap) {r : Result} {S1 : Shared} (h : CR CX0 [] P w H S0 (fun v _ => v = .bl true) (fun _ _ _ => False) r S1) :
    r = .ok (.ret (.bool true)) ∧ OldK S0.heap S1.heap ∧ S1.os = S0.os ∧ AllBare S1.gens := by
  match r, h with
  | .error e, h => exact False.elim h
  | .ok .next, h => exact False.elim h
  | .ok .brk, h => exact False.elim h
  | .ok .cont, h => exact False.elim h
  | .ok (.ret u), ⟨v, H1, os, br, un, hk1, ru, vt⟩ =>
    have vt2 : v = .bl true := vt
    rw [vt2] at ru
    have ru2 : u = Value.bool true := ru
    subst ru2
    refine ⟨rfl, OldK.of_keep fun b o at0 => ?_, os, br⟩
    rcases fz b with free | ⟨ob, xs, frozen⟩
    · exact un.keep b o at0 free (fun z => not_in_nil z) (fun z => not_in_nil z)
    · have was := (hok b _ frozen).1
      have is := (hk1 b _ (un.frzs b ob _ frozen)).1
      rw [at0] at was
      cases was
      exact is
/-- the heap without the script -/
theorem bare_base (KX : K.In S0.heap) (gl : S0.heap.Ns mainGlobals mg) (bu : S0.heap.Ns builtinsNs mb) (bb : ∀ z : Str, z ≠ "__name__" → mb z = bootBuiltins z) (nl : S0.heap.NoLimit)
    (ob : S0.heap.get? a = some { cls := .type "list", data := .seq vs.toArray }) {H : Hp} (own : ∀ b, H b ≠ none → b = a) (out : H a ≠ none → K.lookup a = none) : Mod K mg (hidT S0.heap H) := by
  have plain : ∀ {b : Addr} {m : Str → Option Value}, S0.heap.Ns b m → (hidT S0.heap H).Ns b m := by
    rintro b m ⟨o, es, ep, at0, dat, more⟩
    refine ⟨o, es, ep, hidT_get at0 ?_, dat, more⟩
    cases hb : H b with
    | none => rfl
    | some u =>
      have ba : b = a := own b (by rw [hb]; exact Option.some_ne_none u)
      rw [ba, ob] at at0
      cases at0
      exact absurd dat (by intro z; cases z)
  refine ⟨fun b o lk => hidT_get (KX b o lk) ?_, plain gl, ⟨mb, plain bu, bb⟩, ?_⟩
  · cases hb : H b with
    | none => rfl
    | some u =>
      have ne : H b ≠ none := by rw [hb]; exact Option.some_ne_none u
      have ba : b = a := own b ne
      subst ba
      rw [out ne] at lk
      cases lk
  · obtain ⟨mc, n1, n2⟩ := nl
    exact ⟨mc, plain n1, n2⟩
theorem law_at (KX : K.In S0.heap) (gl : S0.heap.Ns mainGlobals mg) (bu : S0.heap.Ns builtinsNs mb) (bb : ∀ z : Str, z ≠ "__name__" → mb z = bootBuiltins z) (nl : S0.heap.NoLimit) (gn : S0.gens = #[])
    (ob : S0.heap.get? a = some { cls := .type "list", data := .seq vs.toArray }) (ia : IntsAre vs ns) (ln : ns.length ≤ sizeLine) (ro : Room (k + 1) callerA) (L : LawDef P w K mg k fa x want)
    (hw : ∀ H : Hp, SqL K H a (ns.map V.int) → want H a ns) :
    codeAny (model P w) callerA (.call (.ref fa) ⟨[.ref a], []⟩) (fun r S1 => r = .ok (.ret (.bool true)) ∧ OldK S0.heap S1.heap ∧ S1.os = S0.os ∧ AllBare S1.gens) S0 := by
  have lenV := ia.length
  have go : ∀ H : Hp, Only H → SqL K H a (ns.map V.int) → HOk P w H S0.heap → (∀ b, H b ≠ none → b = a) → (H a ≠ none → K.lookup a = none) →
      codeAny (model P w) callerA (.call (.ref fa) ⟨[.ref a], []⟩) (fun r S1 => r = .ok (.ret (.bool true)) ∧ OldK S0.heap S1.heap ∧ S1.os = S0.os ∧ AllBare S1.gens) S0 := by
    intro H fz sq hok own out
    have M := bare_base KX gl bu bb nl ob own out
    have e0 : Env0 P w K mg (hidT S0.heap H) callerA [] S0 H :=
      { frames := rfl, mod := M, bs := fun b o e => of_hidT e, bsz := Nat.le_of_eq (hidT_size _ _), funs := trivial, frf := fun b z => not_in_nil (show b ∈ ([] : List Addr) from z), hok := hok, bare := .of_eq gn }
    exact codeAny_mono (L.run M.kin M.glob (hw H sq) ro e0) fun r S1 h => told_true fz hok h
  by_cases hk : K.lookup a = none
  · let o0 : Obj := { cls := .type "list", data := .seq vs.toArray }
    let H0 : Hp := fun b => if b = a then some (.frz o0 (.lst (ns.map V.int))) else none
    have h1 : H0 a = some (.frz o0 (.lst (ns.map V.int))) := if_pos rfl
    have h2 : ∀ b, b ≠ a → H0 b = none := fun b hb => if_neg hb
    refine go H0 (fun b => ?_) (Or.inl (Or.inr ⟨o0, h1⟩)) (fun b u z => ?_) (fun b z => Decidable.byContradiction fun hb => z (h2 b hb)) (fun _ => hk)
    · by_cases hb : b = a
      · subst hb
        exact Or.inr ⟨_, _, h1⟩
      · exact Or.inl (h2 b hb)
    · by_cases hb : b = a
      · subst hb
        rw [h1] at z
        cases z
        exact ⟨ob, by rw [List.length_map]; exact ln, vs, _, vals_ints ia, ob⟩
      · rw [h2 b hb] at z
        cases z
  · obtain ⟨o, lk⟩ := Option.ne_none_iff_exists'.mp hk
    have same := KX a o lk
    rw [ob] at same
    cases same
    refine go (fun _ => none) (fun _ => Or.inl rfl) (Or.inr ⟨_, vs.toArray, _, lk, rfl, rfl, rfl, by rw [List.size_toArray, lenV]; exact ln, by simpa using vals_ints ia⟩) (fun b u z => by cases z) (fun b z => absurd rfl z) (fun z => absurd rfl z)
end
/-- what k_head leaves, from the law's def -/
theorem walk_G {l : PySem.W.OpenLaw} {n k : Nat} {q : Program} {loose : List Str} {XP : (Str → Option Value) → Heap → Prop} {YP : World → Heap → Prop} {d : DefRec} {K : Params → PySem.W.Frag} {x : Str} (want : PySem.W.Frag → Hp → Addr → List Int → Prop)
    (hn : l.most = some n) (hz : n ≤ sizeLine) (nodef : d.params.defaults = []) (ro : Room (k + 1) callerA) (hY : ∀ (w : World) (h : Heap), YP w h → (K w.params).In h)
    (F : ∀ (w : World) (mg : Str → Option Value) (fa : Addr) (h : Heap), (K w.params).In h → h.Ns mainGlobals mg → mg d.name = some (.ref fa) → LawDef l.prog w (K w.params) mg k fa x (want (K w.params)))
    (hw : ∀ (K : PySem.W.Frag) (H : Hp) (a : Addr) (ns : List Int), ns.length ≤ n → (∀ z ∈ ns, Builtin.Int.intBits z ≤ 1048576) → SqL K H a (ns.map V.int) → want K H a ns) :
    PySem.W.WalkO q loose XP YP l.row.toRowW d [] (fun f vs => PySem.call f vs) :=
  Att.attach_callB hn nodef fun w _ _ mg _ fa _ _ _ _ _ _ _ G Y _ _ _ atl ob ia ln bits gn =>
    law_at (hY w _ Y) G.T.g G.T.b G.T.builtins G.T.nolimit gn ob ia (Nat.le_trans ln hz) ro (F w mg fa _ (hY w _ Y) G.T.g atl) fun H sq => hw _ H _ _ ln bits sq
end G2

set_option maxHeartbeats 4000000
namespace G3
open PySem PySem.Spec PyProof.Rows L2
section
variable {X : Cx} {CX : CXT} {k : Nat} {f : Addr} {fd : FuncData} {ps ks : List Str} {sp : Sp} {E : XK} {x : Str} {p pos : Pos} {kws : List Keyword} {tk : TA} {g : List Value → List Value → List Value} {gV : List V → List V → List V}
/-- f(k = v, ..), nothing by place -/
theorem pe_named (F : FnOk X.prog X.w X.K X.mg X.base CX k f fd ps sp) (ro : Room k X.A) (gl : Gl X x) (at0 : X.mg x = some (.ref f)) (kp : PySem.W.keepIn X.K (.ref f) = true) (kb : KBinds X.K fd ps ks g gV) (px : Passes CX X E) (pk : PK X kws tk)
    (h1 : (backToKw pos (keywordEach kws X.env)).all (·.1.isSome) = true := by rfl) (h2 : (backToKw pos (keywordEach kws X.env)).filterMap (·.1) = ks := by rfl) (h3 : (x == ("__debug__" : Str)) = false := by decide)
    (h4 : ((backTo pos (starEach [] X.env)).any (·.1) || (backToKw pos (keywordEach kws X.env)).any (·.1.isNone)) = false := by rfl) :
    PE X (.Call (.Name x p) [] kws pos) (tCallK sp gV E tNil tk) := by
  refine ⟨fun pins s σ H Q I hyp => wpAny_Call_Name_kw (ld_glob I gl at0 ?_ h3)⟩
  refine PySem.W.callWith_KW0 (h₀ := X.base) I.ok.mod.kin kp h1 (thn (pk.run pos pins s σ H _ I hyp) fun ws s2 ⟨zs, H2, I2, rz, q2⟩ => ⟨I2.kIn, ?_⟩) h4
  rw [h2]
  exact run_fnk (us := []) (vs := []) F ro kb px I2 .nil rz q2
end
/-! heaps -/
theorem same_refl {H : Hp} : Same H H := fun _ _ e => e
theorem same_new {H : Hp} {p : Addr} {o : HO} (h : H p = none) : Same H (upd H p o) := fun b x e => by
  rw [upd_ne (ne_of_none e h)]
  exact e
/-- a store at what was not there at first -/
theorem same_put {H H1 : Hp} {p : Addr} {o : HO} (s : Same H H1) (h : H p = none) : Same H (upd H1 p o) := fun b x e => by
  rw [upd_ne (ne_of_none e h)]
  exact s b x e
theorem same_none {H H1 : Hp} {p : Addr} (s : Same H H1) (h : H1 p = none) : H p = none := by
  cases e : H p with
  | none => rfl
  | some o => rw [s _ _ e] at h; cases h
end G3

set_option maxHeartbeats 4000000
namespace G4
open PySem PySem.Spec PyProof.Rows L2
/-! data that is shown and compared: short leaves, no dicts -/
def nice (d : PyData) : Bool := d.showable && (d.canLay0 && d.leavesShort 13)
theorem nice_show {d : PyData} (h : nice d = true) : d.showable = true := (Bool.and_eq_true_iff.mp h).1
theorem nice_lay {d : PyData} (h : nice d = true) : d.canLay0 = true := (Bool.and_eq_true_iff.mp (Bool.and_eq_true_iff.mp h).2).1
theorem nice_short {d : PyData} (h : nice d = true) : d.leavesShort 13 = true := (Bool.and_eq_true_iff.mp (Bool.and_eq_true_iff.mp h).2).2
theorem nice_mk {d : PyData} (a : d.showable = true) (b : d.canLay0 = true) (c : d.leavesShort 13 = true) : nice d = true := by
  unfold nice
  rw [a, b, c]
  rfl
theorem nice_all : ∀ xs : List PyData, (∀ x ∈ xs, nice x = true) → PyData.showableAll xs = true ∧ PyData.canLayAll0 xs = true ∧ PyData.leavesShortAll 13 xs = true
  | [], _ => by simp only [PyData.showableAll, PyData.canLayAll0, PyData.leavesShortAll]; exact ⟨trivial, trivial, trivial⟩
  | x :: xs, h => by
    have hx := h x List.mem_cons_self
    have ih := nice_all xs fun y hy => h y (List.mem_cons_of_mem _ hy)
    simp only [PyData.showableAll, PyData.canLayAll0, PyData.leavesShortAll, nice_show hx, nice_lay hx, nice_short hx, ih.1, ih.2.1, ih.2.2, Bool.and_self]
    exact ⟨trivial, trivial, trivial⟩
theorem nice_list {xs : List PyData} (h : ∀ x ∈ xs, nice x = true) : nice (.list xs) = true := by
  have q := nice_all xs h
  exact nice_mk (by simp only [PyData.showable]; exact q.1) (by simp only [PyData.canLay0]; exact q.2.1) (by simp only [PyData.leavesShort]; exact q.2.2)
theorem nice_tuple {xs : List PyData} (h : ∀ x ∈ xs, nice x = true) : nice (.tuple xs) = true := by
  have q := nice_all xs h
  exact nice_mk (by simp only [PyData.showable]; exact q.1) (by simp only [PyData.canLay0]; exact q.2.1) (by simp only [PyData.leavesShort]; exact q.2.2)
theorem nice_none : nice .none = true := nice_mk (by simp only [PyData.showable]) (by simp only [PyData.canLay0]) (by simp only [PyData.leavesShort])
theorem nice_bool (b : Bool) : nice (.bool b) = true := nice_mk (by simp only [PyData.showable]) (by simp only [PyData.canLay0]) (by simp only [PyData.leavesShort])
theorem int_few : ∀ n : Nat, n < 200 → nice (.int (n - 100)) = true := by decide +kernel
theorem nice_int {i : Int} (h : -100 ≤ i) (h2 : i < 100) : nice (.int i) = true := by
  have q := int_few (i + 100).toNat (by omega)
  have e : (((i + 100).toNat : Nat) : Int) - 100 = i := by omega
  rw [e] at q
  exact q
theorem depth_all {k : Nat} : ∀ xs : List PyData, (∀ x ∈ xs, x.depth ≤ k) → PyData.depthAll xs ≤ k
  | [], _ => by simp only [PyData.depthAll]; exact Nat.zero_le _
  | x :: xs, h => by
    simp only [PyData.depthAll]
    exact Nat.max_le.mpr ⟨h x List.mem_cons_self, depth_all xs fun y hy => h y (List.mem_cons_of_mem _ hy)⟩
theorem depth_list {k : Nat} {xs : List PyData} (h : ∀ x ∈ xs, x.depth ≤ k) : (PyData.list xs).depth ≤ k + 1 := by
  simp only [PyData.depth]
  exact Nat.add_le_add_right (depth_all xs h) 1
theorem depth_tuple {k : Nat} {xs : List PyData} (h : ∀ x ∈ xs, x.depth ≤ k) : (PyData.tuple xs).depth ≤ k + 1 := by
  simp only [PyData.depth]
  exact Nat.add_le_add_right (depth_all xs h) 1
theorem bulk_all {m : Nat} : ∀ xs : List PyData, (∀ x ∈ xs, x.bulk ≤ m) → PyData.bulkAll xs ≤ (m + 1) * xs.length
  | [], _ => by simp only [PyData.bulkAll]; exact Nat.zero_le _
  | x :: xs, h => by
    have h1 := h x List.mem_cons_self
    have ih := bulk_all xs fun y hy => h y (List.mem_cons_of_mem _ hy)
    simp only [PyData.bulkAll, List.length_cons]
    rw [Nat.mul_add]
    omega
theorem bulk_list {m n : Nat} {xs : List PyData} (h : ∀ x ∈ xs, x.bulk ≤ m) (hn : xs.length ≤ n) : (PyData.list xs).bulk ≤ (m + 1) * n := by
  simp only [PyData.bulk]
  exact Nat.le_trans (bulk_all xs h) (Nat.mul_le_mul_left _ hn)
theorem bulk_tuple {m n : Nat} {xs : List PyData} (h : ∀ x ∈ xs, x.bulk ≤ m) (hn : xs.length ≤ n) : (PyData.tuple xs).bulk ≤ (m + 1) * n := by
  simp only [PyData.bulk]
  exact Nat.le_trans (bulk_all xs h) (Nat.mul_le_mul_left _ hn)
theorem nice_fits {d : PyData} (h : nice d = true) (hb : d.bulk ≤ 2 ^ 20) : d.shown.length ≤ sizeLine := PyData.shown_fits_bulk (B := 13) (by decide) (by decide) (nice_short h) hb
theorem nice_shaped {d : PyData} (h : nice d = true) (hd : d.depth ≤ 60) : SeqAt.shaped d = true := by
  unfold SeqAt.shaped
  rw [nice_lay h, decide_eq_true (show d.depth ≤ 64 by omega)]
  rfl
theorem dpAll_map {α : Type} {K : PySem.W.Frag} {H : Hp} {f : α → V} {g : α → PyData} : ∀ xs : List α, (∀ x ∈ xs, Dp K H (f x) (g x)) → DpAll K H (xs.map f) (xs.map g)
  | [], _ => .nil
  | x :: xs, h => .cons (h x List.mem_cons_self) (dpAll_map xs fun y hy => h y (List.mem_cons_of_mem _ hy))
end G4

set_option maxHeartbeats 4000000
namespace K10
open PySem PySem.Spec PyProof.Rows L2
def topS (i : Nat) : Stmt := PySem.Challenge.pw_fewturnsover_k10_turns_put_together.main.body.getD i (.Pass ⟨0, 0, 0, 0⟩)
abbrev sPut : Stmt := topS 1
abbrev sPool : Stmt := topS 3
abbrev sTake : Stmt := topS 4
abbrev sDue : Stmt := topS 5
abbrev sParted : Stmt := topS 6
abbrev sLaw : Stmt := topS 7
theorem scPool : FnScope ["_law_script", "_law_k", "_law_cell", "_law_mixed"] ["_law_script", "_law_k"] (defScope sPool) := ⟨rfl, rfl, rfl, by decide +kernel, rfl, by decide +kernel, by decide +kernel⟩
theorem scTake : FnScope ["_law_pool_here", "_law_many", "_law_found"] ["_law_pool_here", "_law_many"] (defScope sTake) := ⟨rfl, rfl, rfl, by decide +kernel, rfl, by decide +kernel, by decide +kernel⟩
section
variable {P : Program} {w : World} {K : PySem.W.Frag} {mg : Str → Option Value} {base : Heap}

/-- what a pool holds -/
def Pool (H : Hp) (p : Addr) : Prop := ∃ x y : Int, H p = some (.lst [.int x, .int y]) ∧ 0 ≤ x ∧ 0 ≤ y ∧ y < 2147483647
def spTake : Sp := fun vs H Q _ => ∃ (p : Addr) (m : Int), vs = [.ref p, .int m] ∧ Pool H p ∧ 0 < m ∧ m < 1073741824 ∧
  ∀ (x y r : Int), 0 ≤ x → 0 ≤ y → y < 2147483647 → 0 ≤ r → r < m → Q (.int r) (upd H p (.lst [.int x, .int y]))
def spPool (K : PySem.W.Frag) : Sp := fun vs H Q _ => ∃ (a : Addr) (ns : List Int) (k : Nat), vs = [.ref a, .int k] ∧ SqL K H a (ns.map V.int) ∧ k ≤ 1000 ∧
  ∀ (p : Addr) (x y : Int), H p = none → 0 ≤ x → 0 ≤ y → y < 2147483647 → Q (.ref p) (upd H p (.lst [.int x, .int y]))

theorem ok_take {f : Addr} {fd : FuncData} {k : Nat} (F : Fun K "_law_take" "_law_take" sTake f fd) : FnOk P w K mg base CX0 (k + 1) f fd ["_law_pool_here", "_law_many"] spTake := by
  refine F.ok scTake (fun vs H Q E h => ?_) (fun cdv A outer s H vs Q E hr h => ?_)
  · obtain ⟨p, m, rfl, _⟩ := h
    rfl
  · obtain ⟨p, m, rfl, ⟨x, y, hp, hx, hy, hy2⟩, hm, hm2, q⟩ := h
    have nd := scTake.nd
    refine ⟨_, pss_cons (ps_if (pt_cmpR op_gt (pe_ix ix_list (pv 0) pe_int (fun _ _ => rfl)) pe_int (nomark _))
        (pss_cons (ps_set (i := 2) nd rfl (.inl rfl) (pe_op op_mod (pe_ix ix_list (pv 0) pe_int (fun _ _ => rfl)) (pv 1)))
        (pss_cons (ps_asg (pe_op op_fdiv (pe_ix ix_list (pv 0) pe_int (fun _ _ => rfl)) (pv 1)) (pg_sub (pv 0) pe_int set_list))
        (pss_one (ps_ret (pv 2))))) pss_nil)
      (pss_cons (ps_asg (pe_op op_mod (pe_op op_add (pe_op op_mul (pe_ix ix_list (pv 0) pe_int (fun _ _ => rfl)) pe_int) pe_int) pe_int) (pg_sub (pv 0) pe_int set_list))
      (pss_one (ps_ret (pe_op op_mod (pe_op op_fdiv (pe_op op_mod (pe_op op_mul (pe_ix ix_list (pv 0) pe_int (fun _ _ => rfl)) (pe_ix ix_list (pv 0) pe_int (fun _ _ => rfl))) pe_int) pe_int) (pv 1))))), ?_⟩
    have g0 : atI [V.int x, V.int y] 0 = some (V.int x) := atI_nat (j := 0) rfl
    have g1 : atI [V.int x, V.int y] 1 = some (V.int y) := atI_nat (j := 1) rfl
    refine ⟨_, rfl, p, _, 0, _, rfl, rfl, SqL.of hp, g0, x, 0, rfl, rfl, _, rfl, ite2 (fun e => ?_) (fun e => ?_)⟩
    · -- the great cell
      have hd1 : 0 ≤ x / m := Int.ediv_nonneg hx (Int.le_of_lt hm)
      refine ⟨_, rfl, p, _, 0, _, rfl, rfl, SqL.of hp, g0, _, rfl, x, m, rfl, rfl, hm, ?_⟩
      refine ⟨_, rfl, p, _, 0, _, rfl, rfl, SqL.of hp, g0, _, rfl, x, m, rfl, rfl, ⟨hm, hm2⟩, ?_⟩
      refine ⟨_, rfl, p, _, 0, 0, rfl, rfl, hp, rfl, _, rfl, ?_⟩
      exact q _ _ _ hd1 hy hy2 (Int.emod_nonneg x (by omega)) (Int.emod_lt_of_pos x hm)
    · have hz1 : 0 ≤ (y * 48271 + 12345) % 2147483647 := Int.emod_nonneg _ (by decide)
      have hz2 : (y * 48271 + 12345) % 2147483647 < 2147483647 := Int.emod_lt_of_pos _ (by decide)
      refine ⟨_, rfl, p, _, 1, _, rfl, rfl, SqL.of hp, g1, y, 48271, rfl, rfl, .inr ⟨by decide, by decide⟩, _, _, rfl, rfl, _, _, rfl, rfl, (show (0 : Int) < 2147483647 by decide), ?_⟩
      refine ⟨_, rfl, p, _, 1, 1, rfl, rfl, hp, rfl, ?_⟩
      have g2 : atI ([V.int x, V.int y].set 1 (V.int ((y * 48271 + 12345) % 2147483647))) 1 = some (V.int ((y * 48271 + 12345) % 2147483647)) := atI_nat (j := 1) rfl
      refine ⟨_, rfl, p, _, 1, _, rfl, rfl, SqL.of upd_same, g2, _, rfl, p, _, 1, _, rfl, rfl, SqL.of upd_same, g2, _, _, rfl, rfl, .inl ⟨by omega, by omega⟩, ?_⟩
      refine ⟨_, _, rfl, rfl, (show (0 : Int) < 2147483629 by decide), _, _, rfl, rfl, ⟨by decide, by decide⟩, _, rfl, _, m, rfl, rfl, hm, ?_⟩
      exact q _ _ _ hx hz1 hz2 (Int.emod_nonneg _ (by omega)) (Int.emod_lt_of_pos _ hm)

theorem ok_pool {f : Addr} {fd : FuncData} {k : Nat} (F : Fun K "_law_pool" "_law_pool" sPool f fd) (ml : mg "len" = none) (ma : mg "abs" = none) (mi : mg "int" = none) : FnOk P w K mg base CX0 (k + 1) f fd ["_law_script", "_law_k"] (spPool K) := by
  refine F.ok scPool (fun vs H Q E h => ?_) (fun cdv A outer s H vs Q E hr h => ?_)
  · obtain ⟨a, ns, k, rfl, _⟩ := h
    rfl
  · obtain ⟨a, ns, k, rfl, hS, hk, q⟩ := h
    have nd := scPool.nd
    refine ⟨_, pss_cons (ps_set (i := 2) nd rfl (.inl rfl) pe_int)
      (pss_cons (ps_if (pt_cmpR op_lt (pv 1) (pe_callB call_len_seq (by rfl) ml PySem.boot_len (pa_cons (pv 0) pa_nil)) (nomark _))
        (pss_one (ps_set (i := 2) nd rfl (.inl rfl) (pe_callB call_abs (by rfl) ma (by decide +kernel) (pa_cons (pe_ix ix_list (pv 0) (pv 1) (fun _ _ => rfl)) pa_nil)))) pss_nil)
      (pss_cons (ps_set (i := 3) nd rfl (.inl rfl) (pe_op op_mod (pe_op op_mul (pe_op op_add (pe_op op_add (pe_op op_add (pe_op op_mod (pv 2) pe_int) (pe_op op_mul (pe_op op_mul pe_int (pv 1)) (pv 1))) (pe_op op_mul pe_int (pv 1))) pe_int) pe_int) pe_int))
      (pss_one (ps_ret (pe_lst (pa_cons (pe_op op_mul (pv 2) (pe_callTy call_int1 (by rfl) mi (by decide +kernel) (pa_cons (pe_cmpR op_ge (pv 2) (pe_op op_pow pe_int pe_int) (nomark _)) pa_nil)))
        (pa_cons (pe_op op_mod (pe_op op_mul (pv 3) (pv 3)) pe_int) pa_nil))))))), ?_⟩
    -- what follows once the cell is known
    have rest : ∀ c : Int, 0 ≤ c → (tSeq (tAsg (tOp (rI (fun _ j => 0 < j) fun i j => .int (i % j)) (tOp (rI CMul fun i j => .int (i * j)) (tOp (rI0 fun i j => .int (i + j)) (tOp (rI0 fun i j => .int (i + j)) (tOp (rI0 fun i j => .int (i + j)) (tOp (rI (fun _ j => 0 < j) fun i j => .int (i % j)) (tVar 2) (tC (.int 2147483629))) (tOp (rI CMul fun i j => .int (i * j)) (tOp (rI CMul fun i j => .int (i * j)) (tC (.int 7919)) (tVar 1)) (tVar 1))) (tOp (rI CMul fun i j => .int (i * j)) (tC (.int 31)) (tVar 1))) (tC (.int 17))) (tC (.int 48271))) (tC (.int 2147483647))) (gName 3))
        (tRet (tLst (tCons (tOp (rI CMul fun i j => .int (i * j)) (tVar 2) (tCB (fun xs H Q => (∃ i, xs = [.int i] ∧ Q (.int i) H) ∨ ∃ k, xs = [.bl k] ∧ Q (.int (if k then 1 else 0)) H) (tCons (tOp (rI0 fun i j => .bl (decide (j ≤ i))) (tVar 2) (tOp (rI CPow fun i j => .int (i ^ j.toNat)) (tC (.int 10)) (tC (.int 18)))) tNil)))
          (tCons (tOp (rI (fun _ j => 0 < j) fun i j => .int (i % j)) (tOp (rI CMul fun i j => .int (i * j)) (tVar 3) (tVar 3)) (tC (.int 2147483629))) tNil)))))
        { nx := fun _ H' => Q .non H', rt := Q } [some (.ref a), some (.int k), some (.int c), none] H := by
      intro c hc
      refine ⟨_, rfl, c, _, rfl, rfl, (show (0 : Int) < 2147483629 by decide), _, rfl, _, _, rfl, rfl, .inl ⟨by decide, by decide⟩, _, rfl, _, _, rfl, rfl, .inr ⟨by omega, by omega⟩, _, _, rfl, rfl, _, rfl, _, _, rfl, rfl, .inl ⟨by decide, by decide⟩, _, _, rfl, rfl, _, _, rfl, rfl, _, _, rfl, rfl, .inr ⟨by decide, by decide⟩, _, _, rfl, rfl, (show (0 : Int) < 2147483647 by decide), ?_⟩
      have hz1 : 0 ≤ (c % 2147483629 + 7919 * (k : Int) * k + 31 * k + 17) * 48271 % 2147483647 := Int.emod_nonneg _ (by decide)
      have hz2 : (c % 2147483629 + 7919 * (k : Int) * k + 31 * k + 17) * 48271 % 2147483647 < 2147483647 := Int.emod_lt_of_pos _ (by decide)
      refine ⟨_, rfl, _, rfl, _, _, rfl, rfl, ⟨by decide, by decide, by decide⟩, c, _, rfl, rfl, .inr ⟨_, rfl, ?_⟩⟩
      have key : ∀ b : Bool, 0 ≤ c * (if b then 1 else 0) := fun b => by cases b <;> simp [hc]
      have sm : ∀ b : Bool, (-(2 ^ 64) : Int) < (if b then 1 else 0) ∧ ((if b then 1 else 0) : Int) < 2 ^ 64 := fun b => by cases b <;> decide
      refine ⟨c, _, rfl, rfl, .inr (sm _), _, rfl, _, rfl, _, _, rfl, rfl, .inl ⟨Int.lt_of_lt_of_le (by decide) hz1, Int.lt_trans hz2 (by decide)⟩, _, _, rfl, rfl, (show (0 : Int) < 2147483629 by decide), by show 2 ≤ sizeLine; decide, fun p np => ?_⟩
      exact q p _ _ np (key _) (Int.emod_nonneg _ (by decide)) (Int.lt_trans (Int.emod_lt_of_pos _ (by decide)) (by decide))
    refine ⟨_, rfl, _, rfl, a, _, rfl, .inl hS, _, _, rfl, rfl, _, rfl, ite2 (fun e => ?_) (fun e => ?_)⟩
    · have hk2 : k < ns.length := by
        have := of_decide_eq_true e
        rw [List.length_map] at this
        omega
      have g : (ns.map V.int)[k]? = some (.int ns[k]) := by
        rw [List.getElem?_map, List.getElem?_eq_getElem hk2]
        rfl
      refine ⟨_, rfl, _, rfl, a, _, k, _, rfl, rfl, hS, atI_nat g, ns[k], rfl, ?_⟩
      refine rest _ ?_
      split <;> omega
    · exact rest 0 (by decide)
end
end K10

set_option maxHeartbeats 4000000
namespace K10
open PySem PySem.Spec PyProof.Rows L2 G3
/-! ### the mathematics: turns put together -/
abbrev Tn := Int × List V
/-- one more turn -/
def push (acc : List Tn) (r : Tn) : List Tn :=
  match acc.getLast? with
  | some t => if t.1 = r.1 then acc.dropLast ++ [(t.1, t.2 ++ r.2)] else acc ++ [r]
  | none => acc ++ [r]
def fold (rs : List Tn) : List Tn := rs.foldl push []
theorem push_nil (r : Tn) : push [] r = [r] := rfl
theorem push_same (i : List Tn) (h : Int) (c d : List V) : push (i ++ [(h, c)]) (h, d) = i ++ [(h, c ++ d)] := by
  unfold push
  rw [List.getLast?_concat, List.dropLast_concat]
  exact if_pos rfl
theorem push_other (i : List Tn) (t r : Tn) (h : t.1 ≠ r.1) : push (i ++ [t]) r = (i ++ [t]) ++ [r] := by
  unfold push
  rw [List.getLast?_concat]
  exact if_neg h
theorem snoc_cases {α : Type} (l : List α) : l = [] ∨ ∃ i t, l = i ++ [t] := by
  rcases List.eq_nil_or_concat l with h | ⟨i, t, h⟩
  · exact .inl h
  · exact .inr ⟨i, t, by rw [h, List.concat_eq_append]⟩
theorem push_push (acc : List Tn) (h : Int) (a b : List V) : push (push acc (h, a)) (h, b) = push acc (h, a ++ b) := by
  rcases snoc_cases acc with rfl | ⟨i, t, rfl⟩
  · rw [push_nil, push_nil]
    exact push_same [] h a b
  · obtain ⟨th, tc⟩ := t
    by_cases e : th = h
    · subst e
      rw [push_same, push_same, push_same, List.append_assoc]
    · have e1 : (th, tc).1 ≠ (h, a).1 := e
      have e2 : (th, tc).1 ≠ (h, a ++ b).1 := e
      rw [push_other i (th, tc) (h, a) e1, push_other i (th, tc) (h, a ++ b) e2, push_same]
theorem fold_snoc (rs : List Tn) (r : Tn) : fold (rs ++ [r]) = push (fold rs) r := by
  unfold fold
  rw [List.foldl_append]
  rfl
theorem fold_push (acc : List Tn) (r : Tn) : fold (push acc r) = push (fold acc) r := by
  rcases snoc_cases acc with rfl | ⟨i, t, rfl⟩
  · rfl
  · obtain ⟨th, tc⟩ := t
    obtain ⟨rh, rc⟩ := r
    by_cases e : th = rh
    · subst e
      rw [push_same, fold_snoc, fold_snoc, push_push]
    · rw [push_other _ _ _ e, fold_snoc]
theorem fold_foldl (rs : List Tn) : ∀ acc : List Tn, fold acc = acc → fold (rs.foldl push acc) = rs.foldl push acc := by
  induction rs with
  | nil => intro acc h; exact h
  | cons r rs ih =>
    intro acc h
    refine ih (push acc r) ?_
    rw [fold_push, h]
theorem fold_fold (rs : List Tn) : fold (fold rs) = fold rs := fold_foldl rs [] rfl
theorem fold_take (rs : List Tn) (i : Nat) (r : Tn) (h : rs[i]? = some r) : fold (rs.take (i + 1)) = push (fold (rs.take i)) r := by
  rw [List.take_add_one, h]
  exact fold_snoc _ _
/-! sizes -/
def tot (rs : List Tn) : Nat := (rs.map fun r => r.2.length).sum
theorem tot_app (a b : List Tn) : tot (a ++ b) = tot a + tot b := by
  unfold tot
  rw [List.map_append, List.sum_append]
theorem tot_one (r : Tn) : tot [r] = r.2.length := by
  show r.2.length + 0 = _
  omega
theorem tot_push (acc : List Tn) (r : Tn) : tot (push acc r) = tot acc + r.2.length := by
  rcases snoc_cases acc with rfl | ⟨i, t, rfl⟩
  · rw [push_nil, tot_one]
    show _ = 0 + _
    omega
  · obtain ⟨th, tc⟩ := t
    obtain ⟨rh, rc⟩ := r
    by_cases e : th = rh
    · subst e
      rw [push_same, tot_app, tot_app, tot_one, tot_one]
      show tot i + (tc ++ rc).length = tot i + tc.length + rc.length
      rw [List.length_append]
      omega
    · rw [push_other _ _ _ e, tot_app, tot_one]
theorem len_push (acc : List Tn) (r : Tn) : (push acc r).length ≤ acc.length + 1 := by
  rcases snoc_cases acc with rfl | ⟨i, t, rfl⟩
  · exact Nat.le_refl _
  · obtain ⟨th, tc⟩ := t
    obtain ⟨rh, rc⟩ := r
    by_cases e : th = rh
    · subst e
      rw [push_same, List.length_append, List.length_append]
      exact Nat.le_succ _
    · rw [push_other _ _ _ e, List.length_append]
      exact Nat.le_refl _
theorem tot_foldl (rs : List Tn) : ∀ acc, tot (rs.foldl push acc) = tot acc + tot rs := by
  induction rs with
  | nil => intro acc; rfl
  | cons r rs ih =>
    intro acc
    show tot (rs.foldl push (push acc r)) = _
    rw [ih, tot_push]
    show _ = tot acc + (r.2.length + tot rs)
    omega
theorem tot_fold (rs : List Tn) : tot (fold rs) = tot rs := by
  show tot (rs.foldl push []) = _
  rw [tot_foldl]
  show 0 + _ = _
  omega
theorem len_foldl (rs : List Tn) : ∀ acc, (rs.foldl push acc).length ≤ acc.length + rs.length := by
  induction rs with
  | nil => intro acc; exact Nat.le_refl _
  | cons r rs ih =>
    intro acc
    have h := ih (push acc r)
    have h2 := len_push acc r
    show (rs.foldl push (push acc r)).length ≤ acc.length + (rs.length + 1)
    omega
theorem len_fold (rs : List Tn) : (fold rs).length ≤ rs.length := by
  have h := len_foldl rs []
  show (rs.foldl push []).length ≤ _
  simpa using h
theorem tot_take_le (rs : List Tn) (i : Nat) : tot (rs.take i) ≤ tot rs := by
  have h := tot_app (rs.take i) (rs.drop i)
  rw [List.take_append_drop] at h
  omega
theorem tot_mem {rs : List Tn} {r : Tn} (h : r ∈ rs) : r.2.length ≤ tot rs := by
  induction rs with
  | nil => cases h
  | cons a rs ih =>
    show _ ≤ a.2.length + tot rs
    rcases List.mem_cons.mp h with e | e
    · rw [e]; omega
    · have := ih e; omega
/-- what is true of all values -/
def AllV (p : V → Prop) (rs : List Tn) : Prop := ∀ r ∈ rs, ∀ v ∈ r.2, p v
theorem AllV.push {p : V → Prop} {acc : List Tn} {r : Tn} (h : AllV p acc) (hr : ∀ v ∈ r.2, p v) : AllV p (push acc r) := by
  rcases snoc_cases acc with rfl | ⟨i, t, rfl⟩
  · intro q hq
    rw [push_nil] at hq
    rw [List.mem_singleton.mp hq]
    exact hr
  · obtain ⟨th, tc⟩ := t
    obtain ⟨rh, rc⟩ := r
    by_cases e : th = rh
    · subst e
      rw [push_same]
      intro q hq v hv
      rcases List.mem_append.mp hq with z | z
      · exact h q (List.mem_append_left _ z) v hv
      · rw [List.mem_singleton.mp z] at hv
        rcases List.mem_append.mp hv with y | y
        · exact h (th, tc) (List.mem_append_right _ (List.mem_singleton.mpr rfl)) v y
        · exact hr v y
    · rw [push_other _ _ _ e]
      intro q hq v hv
      rcases List.mem_append.mp hq with z | z
      · exact h q z v hv
      · rw [List.mem_singleton.mp z] at hv
        exact hr v hv
theorem AllV.foldl {p : V → Prop} (rs : List Tn) : ∀ acc, AllV p acc → AllV p rs → AllV p (rs.foldl K10.push acc) := by
  induction rs with
  | nil => intro acc h _; exact h
  | cons r rs ih =>
    intro acc h hr
    exact ih _ (h.push (hr r List.mem_cons_self)) fun q hq => hr q (List.mem_cons_of_mem _ hq)
theorem AllV.fold {p : V → Prop} {rs : List Tn} (h : AllV p rs) : AllV p (fold rs) := AllV.foldl rs [] (fun _ z => nomatch z) h
/-! ### turns in the heap -/
inductive Tns (H : Hp) : List (Addr × Addr) → List Tn → Prop
  | nil : Tns H [] []
  | cons {t : Addr × Addr} {r : Tn} {ts : List (Addr × Addr)} {rs : List Tn} : H t.1 = some (.tup [.int r.1, .ref t.2]) → H t.2 = some (.lst r.2) → Tns H ts rs → Tns H (t :: ts) (r :: rs)
theorem Tns.len {H : Hp} : ∀ {ts : List (Addr × Addr)} {rs : List Tn}, Tns H ts rs → ts.length = rs.length
  | _, _, .nil => rfl
  | _, _, .cons _ _ h => by rw [List.length_cons, List.length_cons, h.len]
theorem Tns.get {H : Hp} : ∀ {ts : List (Addr × Addr)} {rs : List Tn}, Tns H ts rs → ∀ {i : Nat} {r : Tn}, rs[i]? = some r → ∃ t, ts[i]? = some t ∧ H t.1 = some (.tup [.int r.1, .ref t.2]) ∧ H t.2 = some (.lst r.2)
  | _, _, .nil, _, _, e => by simp at e
  | _, _, .cons h1 h2 h, 0, r, e => by
    simp at e
    subst e
    exact ⟨_, rfl, h1, h2⟩
  | _, _, .cons h1 h2 h, i + 1, r, e => by
    obtain ⟨t, g, k⟩ := h.get (i := i) (r := r) (by simpa using e)
    exact ⟨t, by simpa using g, k⟩
theorem Tns.snoc {H : Hp} {t : Addr × Addr} {r : Tn} (h1 : H t.1 = some (.tup [.int r.1, .ref t.2])) (h2 : H t.2 = some (.lst r.2)) : ∀ {ts : List (Addr × Addr)} {rs : List Tn}, Tns H ts rs → Tns H (ts ++ [t]) (rs ++ [r])
  | _, _, .nil => .cons h1 h2 .nil
  | _, _, .cons g1 g2 g => .cons g1 g2 (g.snoc h1 h2)
theorem Tns.last {H : Hp} : ∀ {ts : List (Addr × Addr)} {i : List Tn} {r : Tn}, Tns H ts (i ++ [r]) → ∃ js t, ts = js ++ [t] ∧ Tns H js i ∧ H t.1 = some (.tup [.int r.1, .ref t.2]) ∧ H t.2 = some (.lst r.2)
  | _, [], r, .cons h1 h2 h => by
    cases h
    exact ⟨[], _, rfl, .nil, h1, h2⟩
  | _, x :: i, r, .cons h1 h2 h => by
    obtain ⟨js, t, e, g, k⟩ := Tns.last (i := i) (r := r) h
    exact ⟨_ :: js, t, by rw [e]; rfl, .cons h1 h2 g, k⟩
/-- where the heap is otherwise elsewhere alone -/
theorem Tns.keep {H H' : Hp} : ∀ {ts : List (Addr × Addr)} {rs : List Tn}, Tns H ts rs → (∀ t ∈ ts, H' t.1 = H t.1 ∧ H' t.2 = H t.2) → Tns H' ts rs
  | _, _, .nil, _ => .nil
  | _, _, .cons h1 h2 h, k => by
    have q := k _ List.mem_cons_self
    exact .cons (q.1.trans h1) (q.2.trans h2) (h.keep fun t m => k t (List.mem_cons_of_mem _ m))
theorem Tns.mem {H : Hp} {ts : List (Addr × Addr)} {rs : List Tn} (h : Tns H ts rs) {t : Addr × Addr} (m : t ∈ ts) : ∃ r ∈ rs, H t.1 = some (.tup [.int r.1, .ref t.2]) ∧ H t.2 = some (.lst r.2) := by
  obtain ⟨i, hi, e⟩ := List.getElem_of_mem m
  have hl : i < rs.length := by rw [← h.len]; exact hi
  obtain ⟨t2, g, k⟩ := h.get (List.getElem?_eq_getElem hl)
  rw [List.getElem?_eq_getElem hi, e] at g
  cases g
  exact ⟨_, List.getElem_mem hl, k⟩
theorem Tns.same {H H' : Hp} {ts : List (Addr × Addr)} {rs : List Tn} (h : Tns H ts rs) (s : Same H H') : Tns H' ts rs := h.keep fun t m => by
  obtain ⟨r, _, h1, h2⟩ := h.mem m
  exact ⟨(s _ _ h1).trans h1.symm, (s _ _ h2).trans h2.symm⟩
/-- a store at a place that is none of its lists -/
theorem Tns.put {H : Hp} {q : Addr} {xs : List V} {o : HO} {ts : List (Addr × Addr)} {rs : List Tn} (h : Tns H ts rs) (hq : H q = some (.lst xs)) (n : ∀ t ∈ ts, t.2 ≠ q) : Tns (upd H q o) ts rs := h.keep fun t m => by
  obtain ⟨r, _, h1, h2⟩ := h.mem m
  exact ⟨upd_ne (ne_of h1 hq (by intro z; cases z)), upd_ne (n t m)⟩
/-- a list of turns at p -/
def RaceAt (H : Hp) (p : Addr) (ts : List (Addr × Addr)) (rs : List Tn) : Prop := H p = some (.lst (ts.map fun t => V.ref t.1)) ∧ Tns H ts rs
theorem RaceAt.same {H H' : Hp} {p : Addr} {ts : List (Addr × Addr)} {rs : List Tn} (h : RaceAt H p ts rs) (s : Same H H') : RaceAt H' p ts rs := ⟨s _ _ h.1, h.2.same s⟩
theorem RaceAt.at {H : Hp} {p : Addr} {ts : List (Addr × Addr)} {rs : List Tn} (h : RaceAt H p ts rs) {i : Nat} {x : V} (e : (ts.map fun t => V.ref t.1)[i]? = some x) :
    ∃ (t : Addr × Addr) (r : Tn), x = .ref t.1 ∧ rs[i]? = some r ∧ H t.1 = some (.tup [.int r.1, .ref t.2]) ∧ H t.2 = some (.lst r.2) := by
  rw [List.getElem?_map] at e
  obtain ⟨t, g, rfl⟩ := Option.map_eq_some_iff.mp e
  have hi := (List.getElem?_eq_some_iff.mp g).1
  rw [h.2.len] at hi
  obtain ⟨t2, g2, k⟩ := h.2.get (List.getElem?_eq_getElem hi)
  rw [g] at g2
  cases g2
  exact ⟨t, _, rfl, List.getElem?_eq_getElem hi, k⟩
end K10

set_option maxHeartbeats 4000000
namespace K10
open PySem PySem.Spec PyProof.Rows L2 G3
theorem scPut : FnScope ["run", "turns", "hand", "choices"] ["run"] (defScope sPut) := ⟨rfl, rfl, rfl, by decide +kernel, rfl, by decide +kernel, by decide +kernel⟩
theorem scDue : FnScope ["_law_race", "_law_found", "_law_who", "_law_picks"] ["_law_race"] (defScope sDue) := ⟨rfl, rfl, rfl, by decide +kernel, rfl, by decide +kernel, by decide +kernel⟩
theorem scParted : FnScope ["_law_pool_here", "_law_race", "_law_found", "_law_who", "_law_picks", "_law_at"] ["_law_pool_here", "_law_race"] (defScope sParted) := ⟨rfl, rfl, rfl, by decide +kernel, rfl, by decide +kernel, by decide +kernel⟩
/-- new turns: none of them was there -/
def New (H : Hp) (p : Addr) (us : List (Addr × Addr)) : Prop := ∀ t ∈ us, H t.1 = none ∧ H t.2 = none ∧ t.2 ≠ p
theorem map_snoc (us : List (Addr × Addr)) (t : Addr × Addr) : ((us ++ [t]).map fun t => V.ref t.1) = (us.map fun t => V.ref t.1) ++ [.ref t.1] := by
  rw [List.map_append]
  rfl
section
variable {P : Program} {w : World} {K : PySem.W.Frag} {mg : Str → Option Value} {base : Heap}
def spPut : Sp := fun vs H Q _ => ∃ (a : Addr) (ts : List (Addr × Addr)) (rs : List Tn), vs = [.ref a] ∧ RaceAt H a ts rs ∧ rs.length ≤ 1000 ∧ tot rs ≤ 1000 ∧
  ∀ (H' : Hp) (p : Addr) (us : List (Addr × Addr)), Same H H' → H p = none → RaceAt H' p us (fold rs) → New H p us → Q (.ref p) H'
theorem ok_put {f : Addr} {fd : FuncData} {k : Nat} (F : Fun K "put_together" "put_together" sPut f fd) (ml : mg "list" = none) : FnOk P w K mg base CX0 (k + 1) f fd ["run"] spPut := by
  refine F.ok scPut (fun vs H Q E h => ?_) (fun cdv A outer s H vs Q E hr h => ?_)
  · obtain ⟨a, ts, rs, rfl, _⟩ := h
    rfl
  · obtain ⟨a, ts, rs, rfl, hR, hl, ht, q⟩ := h
    have nd := scPut.nd
    refine ⟨_, pss_cons (ps_set (i := 1) nd rfl (.inl rfl) (pe_lst pa_nil))
      (pss_cons (ps_for PassesOwn.never rfl (pi_list (pv 0)) (pg_tup rfl (pgs_cons (pg_name (i := 2) nd rfl (.inl rfl)) (pgs_cons (pg_name (i := 3) nd rfl (.inl rfl)) pgs_nil)))
        (pss_one (ps_if (PW.pt (pw_and (pt_truth (pv 1) (fun _ => rfl)) (pw_and1 (pt_cmpR op_eq (pe_ix ix_tup (pe_ix ix_list (pv 1) (pe_un un_neg pe_int) (fun _ _ => rfl)) pe_int (fun _ _ => rfl)) (pv 2) (nomark _)))))
          (pss_one (ps_expr (pe_bm PySem.F.plainAttrs_list PySem.F.slot_list_extend PySem.F.type_list_extend mt_extend (pe_ix ix_tup (pe_ix ix_list (pv 1) (pe_un un_neg pe_int) (fun _ _ => rfl)) pe_int (fun _ _ => rfl)) (pa_cons (pv 3) pa_nil))))
          (pss_one (ps_expr (pe_bm PySem.F.plainAttrs_list PySem.F.slot_list_append PySem.F.type_list_append mt_append (pv 1) (pa_cons (pe_tup (pa_cons (pv 2) (pa_cons (pe_callTy call_list_of (by rfl) ml (by decide +kernel) (pa_cons (pv 3) pa_nil)) pa_nil))) pa_nil)))))))
      (pss_one (ps_ret (pv 1)))), ?_⟩
    refine ⟨Nat.zero_le _, fun o no => ?_⟩
    have s1 : Same H (upd H o (.lst [])) := same_new no
    refine ⟨.ref a, rfl, a, rfl, ⟨_, SqL.of (s1 _ _ hR.1)⟩, for_list (xs := ts.map fun t => V.ref t.1)
      (fun i σ H3 => ∃ y2 y3 us, σ = [some (.ref a), some (.ref o), y2, y3] ∧ Same H H3 ∧ RaceAt H3 o us (fold (rs.take i)) ∧ New H o us ∧ (us.map (·.2)).Nodup)
      ⟨none, none, [], rfl, s1, ⟨upd_same, .nil⟩, fun _ z => (nomatch z), List.nodup_nil⟩ (fun i σ H3 _ hP => ?_) (fun i x σ H3 hx hP => ?_) (fun σ H3 hP => ?_)⟩
    · obtain ⟨_, _, _, _, sm, _⟩ := hP
      exact SqL.of (sm _ _ hR.1)
    · obtain ⟨y2, y3, us, rfl, sm, ⟨ho, hT⟩, hN, hD⟩ := hP
      obtain ⟨t, r, rfl, hr1, g1, g2⟩ := (hR.same sm).at hx
      have hfold := fold_take rs i r hr1
      have hrl : r.2.length ≤ tot rs := tot_mem (List.mem_of_getElem? hr1)
      have htl : tot (fold (rs.take i)) ≤ 1000 := by
        rw [tot_fold]
        exact Nat.le_trans (tot_take_le rs i) ht
      have hll : (fold (rs.take i)).length ≤ 1000 := Nat.le_trans (len_fold _) (by rw [List.length_take]; omega)
      have hlen := hT.len
      -- a new turn
      have app : ∀ (y : Int), y = r.1 → push (fold (rs.take i)) r = fold (rs.take i) ++ [r] → (tDrop (tBM K "list" rAppend (tVar 1) (tCons (tTup (tCons (tVar 2) (tCons (tCB (fun xs H Q => ∃ p ys, xs = [.ref p] ∧ (SqL K H p ys ∨ SqT K H p ys) ∧ ∀ l, H l = none → Q (.ref l) (upd H l (.lst ys))) (tCons (tVar 3) tNil)) tNil))) tNil)))
          { nx := (fun σ H3 => ∃ y2 y3 us, σ = [some (.ref a), some (.ref o), y2, y3] ∧ Same H H3 ∧ RaceAt H3 o us (fold (rs.take (i + 1))) ∧ New H o us ∧ (us.map (·.2)).Nodup), ct := (fun _ _ => False), bk := (fun _ _ => False), rt := Q } [some (.ref a), some (.ref o), some (.int y), some (.ref t.2)] H3 := by
        intro y hy hp
        subst hy
        refine ⟨_, rfl, .inl ⟨rfl, _, SqL.of ho⟩, _, rfl, _, rfl, t.2, _, rfl, .inl (SqL.of g2), fun c nc => ⟨by show 2 ≤ sizeLine; decide, fun d ndd => ?_⟩⟩
        have hdc : d ≠ c := fun e => by
          rw [e, upd_same] at ndd
          cases ndd
        have nd3 : H3 d = none := by
          rw [upd_ne hdc] at ndd
          exact ndd
        have hoc : o ≠ c := ne_of_none ho nc
        have hod : o ≠ d := ne_of_none ho nd3
        have s2 : Same H3 (upd (upd H3 c (.lst r.2)) d (.tup [.int r.1, .ref c])) := same_put (same_new nc) nd3
        have ho2 := s2 _ _ ho
        refine ⟨o, _, _, rfl, rfl, ho2, ?_, some (.int r.1), some (.ref t.2), us ++ [(d, c)], rfl, ?_, ⟨?_, ?_⟩, ?_, ?_⟩
        · rw [List.length_map]
          exact small1000 (by omega)
        · exact same_put (sm.trans s2) no
        · rw [map_snoc]
          exact upd_same
        · rw [hfold, hp]
          have hT2 : Tns (upd (upd H3 c (.lst r.2)) d (.tup [.int r.1, .ref c])) (us ++ [(d, c)]) (fold (rs.take i) ++ [r]) := Tns.snoc (t := (d, c)) (r := r) upd_same (by show upd _ d _ c = _; rw [upd_ne hdc.symm]; exact upd_same) (hT.same s2)
          refine hT2.put ho2 fun z hz => ?_
          rcases List.mem_append.mp hz with m | m
          · exact (hN z m).2.2
          · rw [List.mem_singleton.mp m]
            exact hoc.symm
        · intro z hz
          rcases List.mem_append.mp hz with m | m
          · exact hN z m
          · rw [List.mem_singleton.mp m]
            exact ⟨same_none sm nd3, same_none sm nc, hoc.symm⟩
        · rw [List.map_append, List.nodup_append]
          refine ⟨hD, List.nodup_cons.mpr ⟨List.not_mem_nil, List.nodup_nil⟩, fun b hb b' hb' => ?_⟩
          rw [List.mem_singleton.mp hb']
          obtain ⟨z, hz, rfl⟩ := List.mem_map.mp hb
          obtain ⟨_, _, _, hz2⟩ := hT.mem hz
          exact ne_of_none hz2 nc
      refine ⟨t.1, _, rfl, SqT.of g1, rfl, _, _, rfl, _, _, rfl, rfl, ?_⟩
      refine ⟨_, rfl, _, .inl ⟨_, SqL.of ho, rfl⟩, ?_⟩
      rcases snoc_cases (fold (rs.take i)) with e0 | ⟨ini, lt, e0⟩
      · rw [e0] at hT
        cases hT
        refine iteF (iteF ?_)
        exact app r.1 rfl (by rw [e0]; rfl)
      · obtain ⟨th, tc⟩ := lt
        rw [e0] at hT
        obtain ⟨js, u, rfl, hJ, u1, u2⟩ := hT.last
        have ho1 := ho
        rw [map_snoc] at ho
        have hne : (!((js ++ [u]).map fun t => V.ref t.1).isEmpty) = true := by
          rw [map_snoc]
          cases js <;> rfl
        rw [hne]
        refine iteT ⟨_, rfl, 1, rfl, o, _, -1, _, rfl, rfl, SqL.of ho, atI_last _ _, u.1, _, 0, _, rfl, rfl, SqT.of u1, atI_nat (j := 0) rfl, _, rfl, rfl, _, rfl, ite2 (fun e => ?_) (fun e => ?_)⟩
        · have eh : th = r.1 := V.int.inj (of_decide_eq_true e)
          obtain ⟨rh, rc⟩ := r
          subst eh
          have hcl : tc.length ≤ 1000 := Nat.le_trans (tot_mem (r := (th, tc)) (by rw [e0]; exact List.mem_append_right _ (List.mem_singleton.mpr rfl))) htl
          have hrc : rc.length ≤ 1000 := Nat.le_trans hrl ht
          have hu := hN u (List.mem_append_right _ (List.mem_singleton.mpr rfl))
          refine ⟨_, rfl, 1, rfl, o, _, -1, _, rfl, rfl, SqL.of ho, atI_last _ _, u.1, _, 1, _, rfl, rfl, SqT.of u1, atI_nat (j := 1) rfl, .inl ⟨rfl, _, SqL.of u2⟩, _, rfl, u.2, t.2, tc, rc, rfl, rfl, u2, g2, ?_, ?_⟩
          · exact Nat.le_trans (Nat.add_le_add hcl hrc) (by decide)
          · refine ⟨some (.int th), some (.ref t.2), js ++ [u], rfl, same_put sm hu.2.1, ⟨?_, ?_⟩, hN, hD⟩
            · rw [upd_ne (fun z => hu.2.2 z.symm)]
              exact ho1
            · rw [hfold, e0, push_same]
              have hJ2 : Tns (upd H3 u.2 (.lst (tc ++ rc))) js ini := hJ.put u2 fun z hz e2 => by
                rw [List.map_append, List.nodup_append] at hD
                exact hD.2.2 z.2 (List.mem_map_of_mem hz) u.2 (List.mem_singleton.mpr rfl) e2
              refine Tns.snoc (t := u) (r := (th, tc ++ rc)) ?_ upd_same hJ2
              rw [upd_ne (ne_of u1 u2 (by intro z; cases z))]
              exact u1
        · have eh : (th, tc).1 ≠ r.1 := fun z => e (decide_eq_true (congrArg V.int z))
          exact app r.1 rfl (by rw [e0]; exact push_other _ _ _ eh)
    · obtain ⟨y2, y3, us, rfl, sm, hU, hN, _⟩ := hP
      have et : rs.take (ts.map fun t => V.ref t.1).length = rs := List.take_of_length_le (by rw [List.length_map, hR.2.len]; exact Nat.le_refl _)
      rw [et] at hU
      exact ⟨_, rfl, q H3 o us sm no hU hN⟩
end
end K10

set_option maxHeartbeats 4000000
namespace K10
open PySem PySem.Spec PyProof.Rows L2 G3 G4
/-- a choice: None or a small number -/
def okv (v : V) : Prop := v = .non ∨ ∃ i : Int, v = .int i ∧ 0 ≤ i ∧ i ≤ 9
def dV : V → PyData
  | .int i => .int i
  | _ => .none
def dT (r : Tn) : PyData := .tuple [.int r.1, .list (r.2.map dV)]
def dR (rs : List Tn) : PyData := .list (rs.map dT)
def okr (rs : List Tn) : Prop := (∀ r ∈ rs, 0 ≤ r.1 ∧ r.1 ≤ 9) ∧ AllV okv rs
theorem okr_push {acc : List Tn} {r : Tn} (h : okr acc) (hr : 0 ≤ r.1 ∧ r.1 ≤ 9) (hv : ∀ v ∈ r.2, okv v) : okr (push acc r) := by
  refine ⟨fun q hq => ?_, h.2.push hv⟩
  rcases snoc_cases acc with rfl | ⟨i, t, rfl⟩
  · rw [push_nil] at hq
    rw [List.mem_singleton.mp hq]
    exact hr
  · obtain ⟨th, tc⟩ := t
    obtain ⟨rh, rc⟩ := r
    by_cases e : th = rh
    · subst e
      rw [push_same] at hq
      rcases List.mem_append.mp hq with z | z
      · exact h.1 q (List.mem_append_left _ z)
      · rw [List.mem_singleton.mp z]
        exact hr
    · rw [push_other _ _ _ e] at hq
      rcases List.mem_append.mp hq with z | z
      · exact h.1 q z
      · rw [List.mem_singleton.mp z]
        exact hr
theorem okr_foldl (rs : List Tn) : ∀ acc, okr acc → okr rs → okr (rs.foldl push acc) := by
  induction rs with
  | nil => intro acc h _; exact h
  | cons r rs ih =>
    intro acc h hr
    exact ih _ (okr_push h (hr.1 r List.mem_cons_self) (hr.2 r List.mem_cons_self)) ⟨fun q hq => hr.1 q (List.mem_cons_of_mem _ hq), fun q hq => hr.2 q (List.mem_cons_of_mem _ hq)⟩
theorem okr_fold {rs : List Tn} (h : okr rs) : okr (fold rs) := okr_foldl rs [] ⟨fun _ z => (nomatch z), fun _ z => (nomatch z)⟩ h
theorem okr_take {rs : List Tn} (h : okr rs) (i : Nat) : okr (rs.take i) := ⟨fun q hq => h.1 q (List.mem_of_mem_take hq), fun q hq => h.2 q (List.mem_of_mem_take hq)⟩
theorem dV_dp {K : PySem.W.Frag} {H : Hp} {v : V} (h : okv v) : Dp K H v (dV v) := by
  rcases h with rfl | ⟨i, rfl, _, _⟩
  · exact .non
  · exact .int i
theorem dV_nice {v : V} (h : okv v) : nice (dV v) = true := by
  rcases h with rfl | ⟨i, rfl, h1, h2⟩
  · exact nice_none
  · exact nice_int (by omega) (by omega)
theorem dV_depth (v : V) : (dV v).depth ≤ 0 := by
  cases v <;> simp [dV, PyData.depth]
theorem dV_bulk (v : V) : (dV v).bulk ≤ 0 := by
  cases v <;> simp [dV, PyData.bulk]
theorem tns_dp {K : PySem.W.Frag} {H : Hp} : ∀ {ts : List (Addr × Addr)} {rs : List Tn}, Tns H ts rs → okr rs → DpAll K H (ts.map fun t => V.ref t.1) (rs.map dT)
  | _, _, .nil, _ => .nil
  | _, _, .cons h1 h2 h, ho => by
    refine .cons (.tup (SqT.of h1) (.cons (.int _) (.cons (.lst (SqL.of h2) ?_) .nil))) (tns_dp h ⟨fun q hq => ho.1 q (List.mem_cons_of_mem _ hq), fun q hq => ho.2 q (List.mem_cons_of_mem _ hq)⟩)
    have hz := dpAll_map (K := K) (H := H) (f := fun v : V => v) (g := dV) _ fun v hv => dV_dp (ho.2 _ List.mem_cons_self v hv)
    rw [List.map_id'] at hz
    exact hz
theorem race_dp {K : PySem.W.Frag} {H : Hp} {p : Addr} {ts : List (Addr × Addr)} {rs : List Tn} (h : RaceAt H p ts rs) (ho : okr rs) : Dp K H (.ref p) (dR rs) := .lst (SqL.of h.1) (tns_dp h.2 ho)
theorem dT_nice {rs : List Tn} (ho : okr rs) : ∀ x ∈ rs.map dT, nice x = true := by
  intro x hx
  obtain ⟨r, hr, rfl⟩ := List.mem_map.mp hx
  have h1 := ho.1 r hr
  refine nice_tuple fun y hy => ?_
  rcases List.mem_cons.mp hy with rfl | hy
  · exact nice_int (by omega) (by omega)
  · rw [List.mem_singleton.mp hy]
    refine nice_list fun z hz => ?_
    obtain ⟨v, hv, rfl⟩ := List.mem_map.mp hz
    exact dV_nice (ho.2 r hr v hv)
theorem dR_nice {rs : List Tn} (ho : okr rs) : nice (dR rs) = true := nice_list (dT_nice ho)
theorem dT_depth (r : Tn) : (dT r).depth ≤ 2 := depth_tuple fun y hy => by
  rcases List.mem_cons.mp hy with rfl | hy
  · simp only [PyData.depth]; omega
  · rw [List.mem_singleton.mp hy]
    refine depth_list fun z hz => ?_
    obtain ⟨v, _, rfl⟩ := List.mem_map.mp hz
    exact dV_depth v
theorem dR_depth (rs : List Tn) : (dR rs).depth ≤ 60 := Nat.le_trans (depth_list (k := 2) fun y hy => by
  obtain ⟨r, _, rfl⟩ := List.mem_map.mp hy
  exact dT_depth r) (by decide)
theorem dT_bulk {r : Tn} (h : r.2.length ≤ 500) : (dT r).bulk ≤ 1002 := Nat.le_trans (bulk_tuple (m := 500) (n := 2) (fun y hy => by
  rcases List.mem_cons.mp hy with rfl | hy
  · simp only [PyData.bulk]; omega
  · rw [List.mem_singleton.mp hy]
    refine Nat.le_trans (bulk_list (m := 0) (n := 500) (fun z hz => ?_) (by rw [List.length_map]; exact h)) (by decide)
    obtain ⟨v, _, rfl⟩ := List.mem_map.mp hz
    exact dV_bulk v) (Nat.le_refl 2)) (by decide)
theorem dR_fits {rs : List Tn} (ho : okr rs) (hl : rs.length ≤ 500) (ht : tot rs ≤ 500) : (dR rs).shown.length ≤ sizeLine := by
  refine nice_fits (dR_nice ho) (Nat.le_trans (bulk_list (m := 1002) (n := 500) (fun y hy => ?_) (by rw [List.length_map]; exact hl)) (by decide))
  obtain ⟨r, hr, rfl⟩ := List.mem_map.mp hy
  exact dT_bulk (Nat.le_trans (tot_mem hr) ht)
theorem dR_shaped {rs : List Tn} (ho : okr rs) : SeqAt.shaped (dR rs) = true := nice_shaped (dR_nice ho) (dR_depth rs)
theorem nil_shaped : SeqAt.shaped (.list []) = true := nice_shaped (nice_list fun _ z => (nomatch z)) (by simp [PyData.depth, PyData.depthAll])
theorem dR_empty (rs : List Tn) : (!PyData.eqv (dR rs) (.list [])) = !rs.isEmpty := by
  cases rs <;> simp [dR, PyData.eqv, PyData.eqvAll]
end K10

set_option maxHeartbeats 4000000
namespace K10
open PySem PySem.Spec PyProof.Rows L2 G3 G4
theorem ixN_last (n : Nat) : ixN (n + 1) (-1) = some n := by
  unfold ixN
  rw [if_neg (by decide), if_pos (by omega)]
  exact congrArg some (by omega)
theorem set_last {α : Type} : ∀ (xs : List α) (x y : α), (xs ++ [x]).set xs.length y = xs ++ [y]
  | [], _, _ => rfl
  | a :: xs, x, y => by
    show a :: ((xs ++ [x]).set xs.length y) = _
    rw [set_last xs x y]
    rfl
section
variable {P : Program} {w : World} {K : PySem.W.Frag} {mg : Str → Option Value} {base : Heap}
def spDue : Sp := fun vs H Q _ => ∃ (a : Addr) (ts : List (Addr × Addr)) (rs : List Tn), vs = [.ref a] ∧ RaceAt H a ts rs ∧ rs.length ≤ 1000 ∧ tot rs ≤ 1000 ∧ okr rs ∧
  ∀ (H' : Hp) (p : Addr) (us : List (Addr × Addr)), Same H H' → H p = none → RaceAt H' p us (fold rs) → New H p us → Q (.ref p) H'
theorem ok_due {f : Addr} {fd : FuncData} {k : Nat} (F : Fun K "_law_due" "_law_due" sDue f fd) (ml : mg "list" = none) : FnOk P w K mg base CX0 (k + 1) f fd ["_law_race"] spDue := by
  refine F.ok scDue (fun vs H Q E h => ?_) (fun cdv A outer s H vs Q E hr h => ?_)
  · obtain ⟨a, ts, rs, rfl, _⟩ := h
    rfl
  · obtain ⟨a, ts, rs, rfl, hR, hl, ht, hok, q⟩ := h
    have nd := scDue.nd
    refine ⟨_, pss_cons (ps_set (i := 1) nd rfl (.inl rfl) (pe_lst pa_nil))
      (pss_cons (ps_for PassesOwn.never rfl (pi_list (pv 0)) (pg_tup rfl (pgs_cons (pg_name (i := 2) nd rfl (.inl rfl)) (pgs_cons (pg_name (i := 3) nd rfl (.inl rfl)) pgs_nil)))
        (pss_one (ps_if (PW.pt (pw_and (pt_cmpR (op_neD hr.units) (pv 1) (pe_lst pa_nil) (nomark _)) (pw_and1 (pt_cmpR op_eq (pe_ix ix_tup (pe_ix ix_list (pv 1) (pe_un un_neg pe_int) (fun _ _ => rfl)) pe_int (fun _ _ => rfl)) (pv 2) (nomark _)))))
          (pss_one (ps_asg (pe_tup (pa_cons (pv 2) (pa_cons (pe_op op_cat (pe_ix ix_tup (pe_ix ix_list (pv 1) (pe_un un_neg pe_int) (fun _ _ => rfl)) pe_int (fun _ _ => rfl)) (pv 3)) pa_nil))) (pg_sub (pv 1) (pe_un un_neg pe_int) set_list)))
          (pss_one (ps_expr (pe_bm PySem.F.plainAttrs_list PySem.F.slot_list_append PySem.F.type_list_append mt_append (pv 1) (pa_cons (pe_tup (pa_cons (pv 2) (pa_cons (pe_callTy call_list_of (by rfl) ml (by decide +kernel) (pa_cons (pv 3) pa_nil)) pa_nil))) pa_nil)))))))
      (pss_one (ps_ret (pv 1)))), ?_⟩
    refine ⟨Nat.zero_le _, fun o no => ?_⟩
    have s1 : Same H (upd H o (.lst [])) := same_new no
    refine ⟨.ref a, rfl, a, rfl, ⟨_, SqL.of (s1 _ _ hR.1)⟩, for_list (xs := ts.map fun t => V.ref t.1)
      (fun i σ H3 => ∃ y2 y3 us, σ = [some (.ref a), some (.ref o), y2, y3] ∧ Same H H3 ∧ RaceAt H3 o us (fold (rs.take i)) ∧ New H o us)
      ⟨none, none, [], rfl, s1, ⟨upd_same, .nil⟩, fun _ z => (nomatch z)⟩ (fun i σ H3 _ hP => ?_) (fun i x σ H3 hx hP => ?_) (fun σ H3 hP => ?_)⟩
    · obtain ⟨_, _, _, _, sm, _⟩ := hP
      exact SqL.of (sm _ _ hR.1)
    · obtain ⟨y2, y3, us, rfl, sm0, hO0, hN⟩ := hP
      obtain ⟨t, r, rfl, hr1, g1, g2⟩ := (hR.same sm0).at hx
      have hfold := fold_take rs i r hr1
      have hrl : r.2.length ≤ tot rs := tot_mem (List.mem_of_getElem? hr1)
      have hoF : okr (fold (rs.take i)) := okr_fold (okr_take hok i)
      have htl : tot (fold (rs.take i)) ≤ 1000 := by
        rw [tot_fold]
        exact Nat.le_trans (tot_take_le rs i) ht
      have hll : (fold (rs.take i)).length ≤ 1000 := Nat.le_trans (len_fold _) (by rw [List.length_take]; omega)
      have hlen := hO0.2.len
      refine ⟨t.1, _, rfl, SqT.of g1, rfl, _, _, rfl, _, _, rfl, rfl, ?_⟩
      refine ⟨_, rfl, Nat.zero_le _, fun e ne => ?_⟩
      have s3 : Same H3 (upd H3 e (.lst [])) := same_new ne
      have sm := sm0.trans s3
      have ⟨ho, hT⟩ := hO0.same s3
      have g1 := s3 _ _ g1
      have g2 := s3 _ _ g2
      refine ⟨_, _, race_dp (hO0.same s3) hoF, .lst (SqL.of upd_same) .nil, dR_shaped hoF, nil_shaped, _, rfl, ?_⟩
      rw [dR_empty]
      generalize upd H3 e (.lst []) = H4 at sm ho hT g1 g2 ⊢
      -- a new turn
      have app : ∀ (y : Int), y = r.1 → push (fold (rs.take i)) r = fold (rs.take i) ++ [r] → (tDrop (tBM K "list" rAppend (tVar 1) (tCons (tTup (tCons (tVar 2) (tCons (tCB (fun xs H Q => ∃ p ys, xs = [.ref p] ∧ (SqL K H p ys ∨ SqT K H p ys) ∧ ∀ l, H l = none → Q (.ref l) (upd H l (.lst ys))) (tCons (tVar 3) tNil)) tNil))) tNil)))
          { nx := (fun σ H3 => ∃ y2 y3 us, σ = [some (.ref a), some (.ref o), y2, y3] ∧ Same H H3 ∧ RaceAt H3 o us (fold (rs.take (i + 1))) ∧ New H o us), ct := (fun _ _ => False), bk := (fun _ _ => False), rt := Q } [some (.ref a), some (.ref o), some (.int y), some (.ref t.2)] H4 := by
        intro y hy hp
        subst hy
        refine ⟨_, rfl, .inl ⟨rfl, _, SqL.of ho⟩, _, rfl, _, rfl, t.2, _, rfl, .inl (SqL.of g2), fun c nc => ⟨by show 2 ≤ sizeLine; decide, fun d ndd => ?_⟩⟩
        have hdc : d ≠ c := fun e => by
          rw [e, upd_same] at ndd
          cases ndd
        have nd3 : H4 d = none := by
          rw [upd_ne hdc] at ndd
          exact ndd
        have hoc : o ≠ c := ne_of_none ho nc
        have s2 : Same H4 (upd (upd H4 c (.lst r.2)) d (.tup [.int r.1, .ref c])) := same_put (same_new nc) nd3
        have ho2 := s2 _ _ ho
        refine ⟨o, _, _, rfl, rfl, ho2, ?_, some (.int r.1), some (.ref t.2), us ++ [(d, c)], rfl, ?_, ⟨?_, ?_⟩, ?_⟩
        · rw [List.length_map]
          exact small1000 (by omega)
        · exact same_put (sm.trans s2) no
        · rw [map_snoc]
          exact upd_same
        · rw [hfold, hp]
          have hT2 : Tns (upd (upd H4 c (.lst r.2)) d (.tup [.int r.1, .ref c])) (us ++ [(d, c)]) (fold (rs.take i) ++ [r]) := Tns.snoc (t := (d, c)) (r := r) upd_same (by show upd _ d _ c = _; rw [upd_ne hdc.symm]; exact upd_same) (hT.same s2)
          refine hT2.put ho2 fun z hz => ?_
          rcases List.mem_append.mp hz with m | m
          · exact (hN z m).2.2
          · rw [List.mem_singleton.mp m]
            exact hoc.symm
        · intro z hz
          rcases List.mem_append.mp hz with m | m
          · exact hN z m
          · rw [List.mem_singleton.mp m]
            exact ⟨same_none sm nd3, same_none sm nc, hoc.symm⟩
      rcases snoc_cases (fold (rs.take i)) with e0 | ⟨ini, lt, e0⟩
      · rw [e0]
        refine iteF (iteF ?_)
        exact app r.1 rfl (by rw [e0]; rfl)
      · obtain ⟨th, tc⟩ := lt
        rw [e0] at hT
        obtain ⟨js, u, rfl, hJ, u1, u2⟩ := hT.last
        rw [map_snoc] at ho
        have hne : (!(fold (rs.take i)).isEmpty) = true := by
          rw [e0]
          cases ini <;> rfl
        rw [hne]
        refine iteT ⟨_, rfl, 1, rfl, o, _, -1, _, rfl, rfl, SqL.of ho, atI_last _ _, u.1, _, 0, _, rfl, rfl, SqT.of u1, atI_nat (j := 0) rfl, _, rfl, rfl, _, rfl, ite2 (fun e => ?_) (fun e => ?_)⟩
        · have eh : th = r.1 := V.int.inj (of_decide_eq_true e)
          obtain ⟨rh, rc⟩ := r
          subst eh
          have hcl : tc.length ≤ 1000 := Nat.le_trans (tot_mem (r := (th, tc)) (by rw [e0]; exact List.mem_append_right _ (List.mem_singleton.mpr rfl))) htl
          have hrc : rc.length ≤ 1000 := Nat.le_trans hrl ht
          refine ⟨_, rfl, _, rfl, 1, rfl, o, _, -1, _, rfl, rfl, SqL.of ho, atI_last _ _, u.1, _, 1, _, rfl, rfl, SqT.of u1, atI_nat (j := 1) rfl, _, rfl, u.2, t.2, tc, rc, rfl, rfl, u2, g2, ?_, fun c nc => ⟨by show 2 ≤ sizeLine; decide, fun d ndd => ?_⟩⟩
          · exact Nat.le_trans (Nat.add_le_add hcl hrc) (by decide)
          · have hdc : d ≠ c := fun e => by
              rw [e, upd_same] at ndd
              cases ndd
            have nd3 : H4 d = none := by
              rw [upd_ne hdc] at ndd
              exact ndd
            have hoc : o ≠ c := ne_of_none ho nc
            have s2 : Same H4 (upd (upd H4 c (.lst (tc ++ rc))) d (.tup [.int th, .ref c])) := same_put (same_new nc) nd3
            have ho2 := s2 _ _ ho
            refine ⟨_, rfl, 1, rfl, o, _, -1, js.length, rfl, rfl, ho2, ?_, some (.int th), some (.ref t.2), js ++ [(d, c)], rfl, same_put (sm.trans s2) no, ⟨?_, ?_⟩, ?_⟩
            · rw [List.length_append, List.length_map]
              exact ixN_last _
            · rw [upd_same, map_snoc]
              have hz := set_last (js.map fun t => V.ref t.1) (V.ref u.1) (V.ref d)
              rw [List.length_map] at hz
              rw [hz]
            · rw [hfold, e0, push_same]
              have hT2 : Tns (upd (upd H4 c (.lst (tc ++ rc))) d (.tup [.int th, .ref c])) (js ++ [(d, c)]) (ini ++ [(th, tc ++ rc)]) := Tns.snoc (t := (d, c)) (r := (th, tc ++ rc)) upd_same (by show upd _ d _ c = _; rw [upd_ne hdc.symm]; exact upd_same) (hJ.same s2)
              refine hT2.put ho2 fun z hz => ?_
              rcases List.mem_append.mp hz with m | m
              · exact (hN z (List.mem_append_left _ m)).2.2
              · rw [List.mem_singleton.mp m]
                exact hoc.symm
            · intro z hz
              rcases List.mem_append.mp hz with m | m
              · exact hN z (List.mem_append_left _ m)
              · rw [List.mem_singleton.mp m]
                exact ⟨same_none sm nd3, same_none sm nc, hoc.symm⟩
        · have eh : (th, tc).1 ≠ r.1 := fun z => e (decide_eq_true (congrArg V.int z))
          rw [← map_snoc] at ho
          exact app r.1 rfl (by rw [e0]; exact push_other _ _ _ eh)
    · obtain ⟨y2, y3, us, rfl, sm, hU, hN⟩ := hP
      have et : rs.take (ts.map fun t => V.ref t.1).length = rs := List.take_of_length_le (by rw [List.length_map, hR.2.len]; exact Nat.le_refl _)
      rw [et] at hU
      exact ⟨_, rfl, q H3 o us sm no hU hN⟩
end
end K10

set_option maxHeartbeats 4000000
namespace K10
open PySem PySem.Spec PyProof.Rows L2 G3 G4
/-- all but what stands at p stays -/
def SameX (p : Addr) (H H' : Hp) : Prop := ∀ b o, b ≠ p → H b = some o → H' b = some o
theorem SameX.of {p : Addr} {H H' : Hp} (s : Same H H') : SameX p H H' := fun b o _ e => s b o e
theorem SameX.trans {p : Addr} {H H1 H2 : Hp} (s : SameX p H H1) (t : SameX p H1 H2) : SameX p H H2 := fun b o n e => t b o n (s b o n e)
theorem SameX.at {p : Addr} {H : Hp} {o : HO} : SameX p H (upd H p o) := fun b x n e => by
  rw [upd_ne n]
  exact e
theorem SameX.put {p c : Addr} {H H1 : Hp} {o : HO} (s : SameX p H H1) (h : H c = none) : SameX p H (upd H1 c o) := fun b x n e => by
  rw [upd_ne (ne_of_none e h)]
  exact s b x n e
/-- none of its places is p -/
def Off (p a : Addr) (ts : List (Addr × Addr)) : Prop := a ≠ p ∧ ∀ t ∈ ts, t.1 ≠ p ∧ t.2 ≠ p
theorem RaceAt.sameX {p : Addr} {H H' : Hp} {a : Addr} {ts : List (Addr × Addr)} {rs : List Tn} (h : RaceAt H a ts rs) (s : SameX p H H') (f : Off p a ts) : RaceAt H' a ts rs :=
  ⟨s _ _ f.1 h.1, h.2.keep fun t m => by
    obtain ⟨r, _, h1, h2⟩ := h.2.mem m
    exact ⟨(s _ _ (f.2 t m).1 h1).trans h1.symm, (s _ _ (f.2 t m).2 h2).trans h2.symm⟩⟩
theorem cut_to (xs : List V) (n : Nat) (h : n ≤ xs.length) : cutV xs none (some (n : Int)) = xs.take n := by
  unfold cutV
  rw [HT.sIx_none, HT.sIx_nat, Nat.min_eq_left h]
  rfl
theorem cut_from (xs : List V) (n : Nat) (h : n ≤ xs.length) : cutV xs (some (n : Int)) none = xs.drop n := by
  unfold cutV
  rw [HT.sIx_none, HT.sIx_nat, Nat.min_eq_left h]
  exact List.take_of_length_le (by rw [List.length_drop]; exact Nat.le_refl _)
section
variable {P : Program} {w : World} {K : PySem.W.Frag} {mg : Str → Option Value} {base : Heap}
def spParted : Sp := fun vs H Q _ => ∃ (p a : Addr) (ts : List (Addr × Addr)) (rs : List Tn), vs = [.ref p, .ref a] ∧ Pool H p ∧ RaceAt H a ts rs ∧ Off p a ts ∧ (∀ r ∈ rs, 0 < r.2.length) ∧ rs.length ≤ 400 ∧ tot rs ≤ 400 ∧
  ∀ (H' : Hp) (o : Addr) (us : List (Addr × Addr)) (ps : List Tn), SameX p H H' → Pool H' p → H o = none → RaceAt H' o us ps → New H o us → fold ps = fold rs → ps.length ≤ 2 * rs.length → tot ps = tot rs → Q (.ref o) H'
theorem ok_parted {f fT : Addr} {fd fdT : FuncData} {k : Nat} (F : Fun K "_law_parted" "_law_parted" sParted f fd) (FT : FnOk P w K mg base CX0 (k + 1) fT fdT ["_law_pool_here", "_law_many"] spTake) (kT : PySem.W.keepIn K (.ref fT) = true) (bT : Binds K fdT ["_law_pool_here", "_law_many"] [])
    (gT : mg "_law_take" = some (.ref fT)) (ml : mg "len" = none) : FnOk P w K mg base CX0 (k + 2) f fd ["_law_pool_here", "_law_race"] spParted := by
  refine F.ok scParted (fun vs H Q E h => ?_) (fun cdv A outer s H vs Q E hr h => ?_)
  · obtain ⟨p, a, ts, rs, rfl, _⟩ := h
    rfl
  · obtain ⟨p, a, ts, rs, rfl, hp, hR, hO, hpos, hl, ht, q⟩ := h
    have nd := scParted.nd
    refine ⟨_, pss_cons (ps_set (i := 2) nd rfl (.inl rfl) (pe_lst pa_nil))
      (pss_cons (ps_for PassesOwn.never rfl (pi_list (pv 1)) (pg_tup rfl (pgs_cons (pg_name (i := 3) nd rfl (.inl rfl)) (pgs_cons (pg_name (i := 4) nd rfl (.inl rfl)) pgs_nil)))
        (pss_cons (ps_set (i := 5) nd rfl (.inl rfl) (pe_call FT hr (by rfl) gT kT bT .nil pass0 (pa_cons (pv 0) (pa_cons (pe_callB call_len_seq (by rfl) ml PySem.boot_len (pa_cons (pv 4) pa_nil)) pa_nil))))
        (pss_cons (ps_if (pt_cmpR op_gt (pv 5) pe_int (nomark _))
          (pss_one (ps_expr (pe_bm PySem.F.plainAttrs_list PySem.F.slot_list_append PySem.F.type_list_append mt_append (pv 2) (pa_cons (pe_tup (pa_cons (pv 3) (pa_cons (pe_slice sl_list (pv 4) po_none (po_some (pv 5))) pa_nil))) pa_nil)))) pss_nil)
        (pss_one (ps_expr (pe_bm PySem.F.plainAttrs_list PySem.F.slot_list_append PySem.F.type_list_append mt_append (pv 2) (pa_cons (pe_tup (pa_cons (pv 3) (pa_cons (pe_slice sl_list (pv 4) (po_some (pv 5)) po_none) pa_nil))) pa_nil)))))))
      (pss_one (ps_ret (pv 2)))), ?_⟩
    refine ⟨Nat.zero_le _, fun o no => ?_⟩
    have s1 : Same H (upd H o (.lst [])) := same_new no
    obtain ⟨px, py, hp1, hp2⟩ := hp
    have hop : o ≠ p := fun e => by
      rw [e, hp1] at no
      cases no
    refine ⟨.ref a, rfl, a, rfl, ⟨_, SqL.of (s1 _ _ hR.1)⟩, for_list (xs := ts.map fun t => V.ref t.1)
      (fun i σ H3 => ∃ y3 y4 y5 us ps, σ = [some (.ref p), some (.ref a), some (.ref o), y3, y4, y5] ∧ SameX p H H3 ∧ Pool H3 p ∧ RaceAt H3 o us ps ∧ New H o us ∧ fold ps = fold (rs.take i) ∧ ps.length ≤ 2 * i ∧ tot ps = tot (rs.take i))
      ⟨none, none, none, [], [], rfl, SameX.of s1, ⟨px, py, s1 _ _ hp1, hp2⟩, ⟨upd_same, .nil⟩, fun _ z => (nomatch z), rfl, Nat.zero_le _, rfl⟩ (fun i σ H3 _ hP => ?_) (fun i x σ H3 hx hP => ?_) (fun σ H3 hP => ?_)⟩
    · obtain ⟨_, _, _, _, _, _, sm, _⟩ := hP
      exact SqL.of (sm _ _ hO.1 hR.1)
    · obtain ⟨y3, y4, y5, us, ps, rfl, sm0, hp3, hU0, hN, hf, hln, htt⟩ := hP
      have hi : i < rs.length := by
        have := (List.getElem?_eq_some_iff.mp hx).1
        rw [List.length_map, hR.2.len] at this
        exact this
      obtain ⟨t, r, rfl, hr1, g1, g2⟩ := (hR.sameX sm0 hO).at hx
      have htm : t ∈ ts := by
        rw [List.getElem?_map] at hx
        obtain ⟨t2, e1, e2⟩ := Option.map_eq_some_iff.mp hx
        obtain ⟨r2, _, k1, k2⟩ := (hR.sameX sm0 hO).2.mem (List.mem_of_getElem? e1)
        have e3 : t2.1 = t.1 := V.ref.inj e2
        rw [e3, g1] at k1
        injection k1 with k1
        injection k1 with k1
        injection k1 with _ k1
        injection k1 with k1 _
        have e4 : t.2 = t2.2 := V.ref.inj k1
        rw [show t = t2 from Prod.ext e3.symm e4]
        exact List.mem_of_getElem? e1
      have hrm := List.mem_of_getElem? hr1
      have hr0 := hpos r hrm
      have hrl : r.2.length ≤ 400 := Nat.le_trans (tot_mem hrm) ht
      refine ⟨t.1, _, rfl, SqT.of g1, rfl, _, _, rfl, _, _, rfl, rfl, ?_⟩
      refine ⟨_, rfl, _, rfl, t.2, _, rfl, .inl (SqL.of g2), ?_⟩
      refine ⟨p, _, rfl, hp3, by omega, by omega, fun x y n hx0 hy0 hy1 hn0 hn1 => ?_⟩
      obtain ⟨m, rfl⟩ : ∃ m : Nat, n = (m : Int) := ⟨n.toNat, by omega⟩
      have hml : m < r.2.length := by omega
      have nop : ∀ z, H z = none → z ≠ p := fun z hz e => by
        rw [e, hp1] at hz
        cases hz
      have hoff : Off p o us := ⟨hop, fun z hz => ⟨nop _ (hN z hz).1, nop _ (hN z hz).2.1⟩⟩
      have sX : SameX p H3 (upd H3 p (.lst [.int x, .int y])) := SameX.at
      have sm := sm0.trans sX
      have hp4 : Pool (upd H3 p (.lst [.int x, .int y])) p := ⟨x, y, upd_same, hx0, hy0, hy1⟩
      have hU := hU0.sameX sX hoff
      have g2 := sX _ _ (hO.2 t htm).2 g2
      have hlen := hU0.2.len
      generalize upd H3 p (.lst [.int x, .int y]) = H4 at sm hp4 hU g2 ⊢
      -- found.append((who, part))
      have app : ∀ (H5 : Hp) (vs : List (Addr × Addr)) (qs : List Tn) (part : List V) (Z : VK), SameX p H H5 → Pool H5 p → RaceAt H5 o vs qs → New H o vs → qs.length ≤ 1000 → H5 t.2 = some (.lst r.2) →
          (∀ (H6 : Hp) (vs' : List (Addr × Addr)), SameX p H H6 → Pool H6 p → RaceAt H6 o vs' (qs ++ [(r.1, part)]) → New H o vs' → H6 t.2 = some (.lst r.2) → Z .non H6) →
          ∀ c, H5 c = none → ∀ d, upd H5 c (.lst part) d = none → rAppend (.ref o) [.ref d] (upd (upd H5 c (.lst part)) d (.tup [.int r.1, .ref c])) Z := by
        intro H5 vs qs part Z sA pA rA nA lA tA kA c nc d ndd
        have hdc : d ≠ c := fun e => by
          rw [e, upd_same] at ndd
          cases ndd
        have nd3 : H5 d = none := by
          rw [upd_ne hdc] at ndd
          exact ndd
        have hoc : o ≠ c := ne_of_none rA.1 nc
        have s2 : Same H5 (upd (upd H5 c (.lst part)) d (.tup [.int r.1, .ref c])) := same_put (same_new nc) nd3
        have ho2 := s2 _ _ rA.1
        obtain ⟨x1, y1, z1, z2⟩ := pA
        have hcp : c ≠ p := fun e => by rw [e, z1] at nc; cases nc
        have hdp : d ≠ p := fun e => by rw [e, z1] at nd3; cases nd3
        have hcn : H c = none := by
          cases e : H c with
          | none => rfl
          | some o2 => rw [sA c o2 hcp e] at nc; cases nc
        have hdn : H d = none := by
          cases e : H d with
          | none => rfl
          | some o2 => rw [sA d o2 hdp e] at nd3; cases nd3
        refine ⟨o, _, _, rfl, rfl, ho2, ?_, kA _ (vs ++ [(d, c)]) ?_ ?_ ⟨?_, ?_⟩ ?_ ?_⟩
        · rw [List.length_map, rA.2.len]
          exact small1000 lA
        · exact ((sA.put hcn).put hdn).put no
        · exact ⟨x1, y1, by rw [upd_ne hop.symm]; exact s2 _ _ z1, z2⟩
        · rw [map_snoc]
          exact upd_same
        · have hT2 : Tns (upd (upd H5 c (.lst part)) d (.tup [.int r.1, .ref c])) (vs ++ [(d, c)]) (qs ++ [(r.1, part)]) := Tns.snoc (t := (d, c)) (r := (r.1, part)) upd_same (by show upd _ d _ c = _; rw [upd_ne hdc.symm]; exact upd_same) (rA.2.same s2)
          refine hT2.put ho2 fun z hz => ?_
          rcases List.mem_append.mp hz with m | m
          · exact (nA z m).2.2
          · rw [List.mem_singleton.mp m]
            exact hoc.symm
        · intro z hz
          rcases List.mem_append.mp hz with m | m
          · exact nA z m
          · rw [List.mem_singleton.mp m]
            exact ⟨hdn, hcn, hoc.symm⟩
        · rw [upd_ne (fun e => by
            have := hR.2.mem htm
            obtain ⟨_, _, _, k2⟩ := this
            rw [e, no] at k2
            cases k2)]
          exact s2 _ _ tA
      have hfold := fold_take rs i r hr1
      have htk : tot (rs.take (i + 1)) = tot (rs.take i) + r.2.length := by
        rw [List.take_add_one, hr1]
        show tot (rs.take i ++ [r]) = _
        rw [tot_app, tot_one]
      -- the second part
      have sec : ∀ (H5 : Hp) (vs : List (Addr × Addr)) (qs : List Tn), SameX p H H5 → Pool H5 p → RaceAt H5 o vs qs → New H o vs → qs.length ≤ 2 * i + 1 → H5 t.2 = some (.lst r.2) → push (fold qs) (r.1, r.2.drop m) = push (fold (rs.take i)) r → tot qs + (r.2.drop m).length = tot (rs.take i) + r.2.length →
          (tDrop (tBM K "list" rAppend (tVar 2) (tCons (tTup (tCons (tVar 3) (tCons (tSl (rSlL K) (tVar 4) (tPart (tVar 5)) tNoPart) tNil))) tNil)))
          { nx := (fun σ H3 => ∃ y3 y4 y5 us ps, σ = [some (.ref p), some (.ref a), some (.ref o), y3, y4, y5] ∧ SameX p H H3 ∧ Pool H3 p ∧ RaceAt H3 o us ps ∧ New H o us ∧ fold ps = fold (rs.take (i + 1)) ∧ ps.length ≤ 2 * (i + 1) ∧ tot ps = tot (rs.take (i + 1))), ct := (fun _ _ => False), bk := (fun _ _ => False), rt := Q }
          [some (.ref p), some (.ref a), some (.ref o), some (.int r.1), some (.ref t.2), some (.int (m : Int))] H5 := by
        intro H5 vs qs sA pA rA nA lA tA eF eT
        refine ⟨_, rfl, .inl ⟨rfl, _, SqL.of rA.1⟩, _, rfl, _, rfl, _, rfl, _, rfl, t.2, _, rfl, SqL.of tA, fun c nc => ⟨by show 2 ≤ sizeLine; decide, fun d ndd => ?_⟩⟩
        rw [cut_from _ _ (Nat.le_of_lt hml)] at ndd ⊢
        dsimp only [tNil]
        refine app H5 vs qs (r.2.drop m) _ sA pA rA nA (by omega) tA (fun H6 vs' s6 p6 r6 n6 _ => ⟨some (.int r.1), some (.ref t.2), some (.int (m : Int)), vs', _, rfl, s6, p6, r6, n6, ?_, ?_, ?_⟩) c nc d ndd
        · rw [fold_snoc, eF, hfold]
        · rw [List.length_append, List.length_singleton]
          omega
        · rw [tot_app, tot_one, htk]
          exact eT
      refine ⟨_, rfl, _, _, rfl, rfl, _, rfl, ite2 (fun e => ?_) (fun e => ?_)⟩
      · refine ⟨_, rfl, .inl ⟨rfl, _, SqL.of hU.1⟩, _, rfl, _, rfl, _, rfl, _, rfl, t.2, _, rfl, SqL.of g2, fun c nc => ⟨by show 2 ≤ sizeLine; decide, fun d ndd => ?_⟩⟩
        rw [cut_to _ _ (Nat.le_of_lt hml)] at ndd ⊢
        dsimp only [tNil]
        refine app H4 us ps (r.2.take m) _ sm hp4 hU hN (by omega) g2 (fun H6 vs' s6 p6 r6 n6 t6 => ?_) c nc d ndd
        refine sec H6 vs' _ s6 p6 r6 n6 (by rw [List.length_append, List.length_singleton]; omega) t6 ?_ ?_
        · rw [fold_snoc, push_push, List.take_append_drop, hf]
        · rw [tot_app, tot_one, htt]
          show tot (rs.take i) + (r.2.take m).length + (r.2.drop m).length = _
          rw [List.length_take, List.length_drop]
          omega
      · have em : m = 0 := by
          have h3 : ¬ ((0 : Int) < (m : Int)) := fun z => e (decide_eq_true z)
          omega
        refine sec H4 us ps sm hp4 hU hN (by omega) g2 ?_ ?_
        · rw [hf, em]
          rfl
        · rw [htt, em]
          rfl
    · obtain ⟨y3, y4, y5, us, ps, rfl, sm, hp3, hU, hN, hf, hln, htt⟩ := hP
      have el : (ts.map fun t => V.ref t.1).length = rs.length := by rw [List.length_map, hR.2.len]
      have et : rs.take (ts.map fun t => V.ref t.1).length = rs := List.take_of_length_le (by rw [el]; exact Nat.le_refl _)
      rw [et] at hf htt
      rw [el] at hln
      exact ⟨_, rfl, q H3 o us ps sm hp3 no hU hN hf hln htt⟩
end
end K10

set_option maxHeartbeats 8000000
namespace K10
open PySem PySem.Spec PyProof.Rows L2 G0 G1 G3 G4
/-- a turn that is written -/
theorem lit_turn {H : Hp} {c t : Addr} {xs : List V} {h : Int} (nc : H c = none) (nt : upd H c (.lst xs) t = none) :
    Same H (upd (upd H c (.lst xs)) t (.tup [.int h, .ref c])) ∧ (upd (upd H c (.lst xs)) t (.tup [.int h, .ref c])) t = some (.tup [.int h, .ref c]) ∧ (upd (upd H c (.lst xs)) t (.tup [.int h, .ref c])) c = some (.lst xs) := by
  have tc : t ≠ c := fun e => by
    rw [e, upd_same] at nt
    cases nt
  have nt2 : H t = none := by
    rw [upd_ne tc] at nt
    exact nt
  exact ⟨same_put (same_new nc) nt2, upd_same, by rw [upd_ne tc.symm]; exact upd_same⟩
structure InvC (H1 : Hp) (p r : Addr) (ts : List (Addr × Addr)) (rs : List Tn) (H3 : Hp) : Prop where
  sm : Same H1 H3
  pl : Pool H3 p
  ra : RaceAt H3 r ts rs
section
variable {H1 H3 : Hp} {p r c : Addr} {ts : List (Addr × Addr)} {rs : List Tn}
theorem InvC.put {o : HO} (h : InvC H1 p r ts rs H3) (n : H1 c = none) (np : c ≠ p) (off : Off c r ts) : InvC H1 p r ts rs (upd H3 c o) := by
  refine ⟨same_put h.sm n, ?_, h.ra.sameX (SameX.at (p := c)) off⟩
  obtain ⟨x, y, hx, hh⟩ := h.pl
  exact ⟨x, y, by rw [upd_ne np.symm]; exact hx, hh⟩
theorem InvC.off (h : InvC H1 p r ts rs H3) (n : H3 c = none) : H1 c = none ∧ c ≠ p ∧ Off c r ts := by
  refine ⟨same_none h.sm n, fun e => ?_, ne_of_none h.ra.1 n, fun t m => ?_⟩
  · obtain ⟨x, y, hx, _⟩ := h.pl
    rw [e, hx] at n
    cases n
  · obtain ⟨q, _, h1, h2⟩ := h.ra.2.mem m
    exact ⟨ne_of_none h1 n, ne_of_none h2 n⟩
theorem InvC.new {o : HO} (h : InvC H1 p r ts rs H3) (n : H3 c = none) : InvC H1 p r ts rs (upd H3 c o) := h.put (h.off n).1 (h.off n).2.1 (h.off n).2.2
theorem InvC.take {x y : Int} (h : InvC H1 p r ts rs H3) (n : H1 p = none) (off : Off p r ts) (hx : 0 ≤ x) (hy : 0 ≤ y) (hy2 : y < 2147483647) : InvC H1 p r ts rs (upd H3 p (.lst [.int x, .int y])) :=
  ⟨same_put h.sm n, ⟨x, y, upd_same, hx, hy, hy2⟩, h.ra.sameX (SameX.at (p := p)) off⟩
end
theorem tot_le {n : Nat} : ∀ rs : List Tn, (∀ x ∈ rs, x.2.length ≤ n) → tot rs ≤ n * rs.length
  | [], _ => Nat.zero_le _
  | x :: rs, h => by
    have h1 := h x List.mem_cons_self
    have ih := tot_le rs fun y hy => h y (List.mem_cons_of_mem _ hy)
    show x.2.length + tot rs ≤ n * (rs.length + 1)
    rw [Nat.mul_add]
    omega
/-- [None, 0, 1, 2][m] -/
theorem menu {m : Int} (h0 : 0 ≤ m) (h1 : m < 4) : ∃ v, atI [V.non, V.int 0, V.int 1, V.int 2] m = some v ∧ okv v := by
  have h : m = 0 ∨ m = 1 ∨ m = 2 ∨ m = 3 := by omega
  rcases h with rfl | rfl | rfl | rfl
  · exact ⟨_, atI_nat (j := 0) rfl, .inl rfl⟩
  · exact ⟨_, atI_nat (j := 1) rfl, .inr ⟨0, rfl, by decide, by decide⟩⟩
  · exact ⟨_, atI_nat (j := 2) rfl, .inr ⟨1, rfl, by decide, by decide⟩⟩
  · exact ⟨_, atI_nat (j := 3) rfl, .inr ⟨2, rfl, by decide, by decide⟩⟩
theorem okr_nil : okr [] := ⟨fun _ z => (nomatch z), fun _ z => (nomatch z)⟩
theorem okr_cons {r : Tn} {rs : List Tn} (h : 0 ≤ r.1 ∧ r.1 ≤ 9) (hv : ∀ v ∈ r.2, okv v) (hr : okr rs) : okr (r :: rs) := by
  refine ⟨fun q hq => ?_, fun q hq => ?_⟩
  · rcases List.mem_cons.mp hq with rfl | hq
    · exact h
    · exact hr.1 q hq
  · rcases List.mem_cons.mp hq with rfl | hq
    · exact hv
    · exact hr.2 q hq
theorem okr_snoc {r : Tn} {rs : List Tn} (h : 0 ≤ r.1 ∧ r.1 ≤ 9) (hv : ∀ v ∈ r.2, okv v) (hr : okr rs) : okr (rs ++ [r]) := by
  refine ⟨fun q hq => ?_, fun q hq => ?_⟩
  · rcases List.mem_append.mp hq with hq | hq
    · exact hr.1 q hq
    · rw [List.mem_singleton.mp hq]; exact h
  · rcases List.mem_append.mp hq with hq | hq
    · exact hr.2 q hq
    · rw [List.mem_singleton.mp hq]; exact hv
theorem okv_non : okv .non := .inl rfl
theorem okv_one : okv (.int 1) := .inr ⟨1, rfl, by decide, by decide⟩
theorem ok1 : ∀ v ∈ [V.int 1], okv v := fun v h => by rw [List.mem_singleton.mp h]; exact okv_one
theorem lit1 : okr [(0, [V.non, V.int 1])] := okr_cons ⟨by decide, by decide⟩ (fun v h => by
  rcases List.mem_cons.mp h with rfl | h
  · exact okv_non
  · exact ok1 v h) okr_nil
theorem lit2 : okr [(0, [V.int 1, V.int 1]), (2, [V.int 1])] := okr_cons ⟨by decide, by decide⟩ (fun v h => by
  rcases List.mem_cons.mp h with rfl | h
  · exact okv_one
  · exact ok1 v h) (okr_cons ⟨by decide, by decide⟩ ok1 okr_nil)
theorem f1 : fold [(0, [V.non]), (0, [V.int 1])] = [(0, [V.non, V.int 1])] := rfl
theorem f2 : fold [(0, [V.int 1]), (0, [V.int 1]), (2, [V.int 1])] = [(0, [V.int 1, V.int 1]), (2, [V.int 1])] := rfl
theorem e1 : (!PyData.eqv (dR [(0, [V.non, V.int 1])]) (dR [(0, [V.non, V.int 1])])) = false := by simp [dR, dT, dV, PyData.eqv, PyData.eqvAll]
theorem e2 : (!PyData.eqv (dR [(0, [V.int 1, V.int 1]), (2, [V.int 1])]) (dR [(0, [V.int 1, V.int 1]), (2, [V.int 1])])) = false := by simp [dR, dT, dV, PyData.eqv, PyData.eqvAll]
theorem e3 : (!PyData.eqv (.list [.int 1]) (.list [.int 1])) = false := by simp [PyData.eqv, PyData.eqvAll]
theorem sh3 : SeqAt.shaped (.list [.int 1]) = true := nice_shaped (nice_list fun x h => by rw [List.mem_singleton.mp h]; exact nice_int (by decide) (by decide)) (by simp [PyData.depth, PyData.depthAll])
end K10

set_option maxHeartbeats 8000000
namespace K10
open PySem PySem.Spec PyProof.Rows L2 G0 G1 G3 G4
abbrev nLaw : List Str := ["_law_script", "_law_picks", "_law_k", "_law_pool_here", "_law_race", "_law_turn", "_law_kept", "_law_due_here", "_law_item", "_law_found", "_law_who", "_law_spot"]
theorem scLaw : FnScope nLaw ["_law_script"] (defScope sLaw) := ⟨rfl, rfl, rfl, by decide +kernel, rfl, by decide +kernel, by decide +kernel⟩
/-- what the law's text finds about it -/
structure Facts (P : Program) (w : World) (K : PySem.W.Frag) (mg : Str → Option Value) (base : Heap) where
  fP : Addr
  dP : FuncData
  fO : Addr
  dO : FuncData
  fT : Addr
  dT : FuncData
  fD : Addr
  dD : FuncData
  fR : Addr
  dR : FuncData
  okP : FnOk P w K mg base CX0 1 fP dP ["run"] spPut
  okO : FnOk P w K mg base CX0 1 fO dO ["_law_script", "_law_k"] (spPool K)
  okT : FnOk P w K mg base CX0 1 fT dT ["_law_pool_here", "_law_many"] spTake
  okD : FnOk P w K mg base CX0 1 fD dD ["_law_race"] spDue
  okR : FnOk P w K mg base CX0 2 fR dR ["_law_pool_here", "_law_race"] spParted
  kP : PySem.W.keepIn K (.ref fP) = true
  kO : PySem.W.keepIn K (.ref fO) = true
  kT : PySem.W.keepIn K (.ref fT) = true
  kD : PySem.W.keepIn K (.ref fD) = true
  kR : PySem.W.keepIn K (.ref fR) = true
  bP : Binds K dP ["run"] []
  bK : KBinds K dP ["run"] ["run"] (fun us ws => us ++ ws) (fun vs zs => vs ++ zs)
  bO : Binds K dO ["_law_script", "_law_k"] []
  bT : Binds K dT ["_law_pool_here", "_law_many"] []
  bD : Binds K dD ["_law_race"] []
  bR : Binds K dR ["_law_pool_here", "_law_race"] []
  gP : mg "put_together" = some (.ref fP)
  gO : mg "_law_pool" = some (.ref fO)
  gT : mg "_law_take" = some (.ref fT)
  gD : mg "_law_due" = some (.ref fD)
  gR : mg "_law_parted" = some (.ref fR)
  mlen : mg "len" = none
  mmax : mg "max" = none
  mmin : mg "min" = none
  mran : mg "range" = none
  mrep : mg "repr" = none
  misi : mg "isinstance" = none
  mlis : mg "list" = none
section
variable {P : Program} {w : World} {K : PySem.W.Frag} {mg : Str → Option Value} {base : Heap}
theorem law_body (X : Facts P w K mg base) {fa : Addr} {cdv : Value} {s : Shared} {H : Hp} {a : Addr} {ns : List Int} (hS : SqL K H a (ns.map V.int)) (hl : ns.length ≤ 63)
    (hr : Room 2 (callerA.deeper (envOfC "law" (defScope sLaw) s.heap.objs.size fa cdv))) :
    ∃ t, PSs (cxOf CX0 P w K mg base nLaw "law" (defScope sLaw) fa cdv callerA [] s H (fun _ _ _ => False)).nox (defBody sLaw) t ∧ t { nx := fun _ _ => False, rt := fun v _ => v = .bl true } (start nLaw [.ref a]) H := by
  have nd := scLaw.nd
  have hr1 := hr.mono (show 1 ≤ 2 by decide)
  refine ⟨_, pss_cons (ps_if (PW.pt (pw_or (pt_cmpR (op_neD hr.units) (pe_call X.okP hr1 (by rfl) X.gP X.kP X.bP .nil pass0 (pa_cons (pe_lst pa_nil) pa_nil)) (pe_lst pa_nil) (nomark _))
        (pw_or1 (pt_cmpR (op_neD hr.units) (pe_named X.okP hr1 (by rfl) X.gP X.kP X.bK pass0 (pk_cons (pe_lst (pa_cons (pe_tup (pa_cons pe_int (pa_cons (pe_lst (pa_cons pe_non pa_nil)) pa_nil))) (pa_cons (pe_tup (pa_cons pe_int (pa_cons (pe_lst (pa_cons pe_int pa_nil)) pa_nil))) pa_nil))) pk_nil))
          (pe_lst (pa_cons (pe_tup (pa_cons pe_int (pa_cons (pe_lst (pa_cons pe_non (pa_cons pe_int pa_nil))) pa_nil))) pa_nil)) (nomark _)))))
      (pss_one (ps_ret pe_bl)) pss_nil)
    (pss_cons (ps_set (i := 1) nd rfl (.inl rfl) (pe_lst (pa_cons pe_int pa_nil)))
    (pss_cons (ps_if (PW.pt (pw_or (pt_cmpR (op_neD hr.units) (pe_call X.okP hr1 (by rfl) X.gP X.kP X.bP .nil pass0 (pa_cons (pe_lst (pa_cons (pe_tup (pa_cons pe_int (pa_cons (pv 1) pa_nil))) (pa_cons (pe_tup (pa_cons pe_int (pa_cons (pv 1) pa_nil))) (pa_cons (pe_tup (pa_cons pe_int (pa_cons (pv 1) pa_nil))) pa_nil)))) pa_nil))
          (pe_lst (pa_cons (pe_tup (pa_cons pe_int (pa_cons (pe_lst (pa_cons pe_int (pa_cons pe_int pa_nil))) pa_nil))) (pa_cons (pe_tup (pa_cons pe_int (pa_cons (pe_lst (pa_cons pe_int pa_nil)) pa_nil))) pa_nil))) (nomark _))
        (pw_or1 (pt_cmpR (op_neD hr.units) (pv 1) (pe_lst (pa_cons pe_int pa_nil)) (nomark _)))))
      (pss_one (ps_ret pe_bl)) pss_nil)
    (pss_cons (ps_for PassesOwn.never rfl (pi_range1 (by rfl) X.mran (pa_cons (pe_callB (call_max2 rfl) (by rfl) X.mmax (by decide +kernel) (pa_cons pe_int (pa_cons (pe_callB (call_min2 rfl) (by rfl) X.mmin (by decide +kernel) (pa_cons (pe_callB call_len_seq (by rfl) X.mlen PySem.boot_len (pa_cons (pv 0) pa_nil)) (pa_cons pe_int pa_nil))) pa_nil))) pa_nil)) (pg_name (i := 2) nd rfl (.inl rfl))
      (pss_cons (ps_set (i := 3) nd rfl (.inr rfl) (pe_call X.okO hr1 (by rfl) X.gO X.kO X.bO .nil pass0 (pa_cons (pv 0) (pa_cons (pv 2) pa_nil))))
      (pss_cons (ps_set (i := 4) nd rfl (.inl rfl) (pe_lst pa_nil))
      (pss_cons (ps_for PassesOwn.never rfl (pi_range1 (by rfl) X.mran (pa_cons (pe_call X.okT hr1 (by rfl) X.gT X.kT X.bT .nil pass0 (pa_cons (pv 3) (pa_cons pe_int pa_nil))) pa_nil)) (pg_name (i := 5) nd rfl (.inl rfl))
        (pss_cons (ps_setLc (i := 1) (own := [("_law_spot", 11)]) (g := gName 11) (tt := tYes) (by rfl) nd rfl rfl (sw_true rfl rfl rfl (by decide +kernel))
            (pi_range1 (by rfl) X.mran (pa_cons (pe_op op_add pe_int (pe_call X.okT hr1 (by rfl) X.gT X.kT X.bT .nil pass0 (pa_cons (pv 3) (pa_cons pe_int pa_nil)))) pa_nil))
            (blkOk_by (N := nLaw) (sc := defScope sLaw) (by decide +kernel)) (fun _ _ _ _ _ => pg_name (i := 11) nd rfl (.inl rfl)) (fun _ _ _ _ _ => pts_nil)
            (fun _ _ _ _ _ => pe_ix (r := rIxL K) ix_list (pe_lst (pa_cons pe_non (pa_cons pe_int (pa_cons pe_int (pa_cons pe_int pa_nil))))) (pe_call X.okT hr1 (by rfl) X.gT X.kT X.bT .nil pass0 (pa_cons (pv 3) (pa_cons pe_int pa_nil))) (fun _ _ => rfl)))
        (pss_one (ps_expr (pe_bm PySem.F.plainAttrs_list PySem.F.slot_list_append PySem.F.type_list_append mt_append (pv 4) (pa_cons (pe_tup (pa_cons (pe_call X.okT hr1 (by rfl) X.gT X.kT X.bT .nil pass0 (pa_cons (pv 3) (pa_cons pe_int pa_nil))) (pa_cons (pv 1) pa_nil))) pa_nil))))))
      (pss_cons (ps_set (i := 6) nd rfl (.inl rfl) (pe_callB (call_reprD rfl hr.units) (by rfl) X.mrep (by decide +kernel) (pa_cons (pv 4) pa_nil)))
      (pss_cons (ps_set (i := 7) nd rfl (.inl rfl) (pe_call X.okD hr1 (by rfl) X.gD X.kD X.bD .nil pass0 (pa_cons (pv 4) pa_nil)))
      (pss_cons (ps_for PassesOwn.never rfl (pi_list (pe_lst (pa_cons (pv 4) (pa_cons (pe_call X.okR hr (by rfl) X.gR X.kR X.bR .nil pass0 (pa_cons (pv 3) (pa_cons (pv 4) pa_nil))) (pa_cons (pv 7) pa_nil))))) (pg_name (i := 8) nd rfl (.inl rfl))
        (pss_one (ps_for PassesOwn.never rfl (pi_range1 (by rfl) X.mran (pa_cons pe_int pa_nil)) (pg_name (i := 5) nd rfl (.inl rfl))
          (pss_cons (ps_set (i := 9) nd rfl (.inl rfl) (pe_call X.okP hr1 (by rfl) X.gP X.kP X.bP .nil pass0 (pa_cons (pv 8) pa_nil)))
          (pss_cons (ps_if (PW.pt (pw_or (pt_not (pt_val (pe_callB RZ.call_isTy (by rfl) X.misi (by decide +kernel) (pa_cons (pv 9) (pa_cons (pe_bltn (by rfl) X.mlis (u := .type "list") (by decide +kernel) (show RelV (.ty "list") (.type "list") from rfl)) pa_nil)))))
              (pw_or1 (pt_cmpR op_ne (pe_callB (call_reprD rfl hr.units) (by rfl) X.mrep (by decide +kernel) (pa_cons (pv 9) pa_nil)) (pe_callB (call_reprD rfl hr.units) (by rfl) X.mrep (by decide +kernel) (pa_cons (pv 7) pa_nil)) (nomark _)))))
            (pss_one (ps_ret pe_bl)) pss_nil)
          (pss_cons (ps_for PassesOwn.never rfl (pi_list (pv 9)) (pg_tup rfl (pgs_cons (pg_name (i := 10) nd rfl (.inl rfl)) (pgs_cons (pg_name (i := 1) nd rfl (.inl rfl)) pgs_nil)))
            (pss_one (ps_expr (pe_bm PySem.F.plainAttrs_list PySem.F.slot_list_append PySem.F.type_list_append mt_append (pv 1) (pa_cons pe_int pa_nil)))))
          (pss_one (ps_expr (pe_bm PySem.F.plainAttrs_list PySem.F.slot_list_append PySem.F.type_list_append mt_append (pv 9) (pa_cons pe_non pa_nil))))))))))
      (pss_one (ps_if (PW.pt (pw_or (pt_cmpR op_ne (pe_callB (call_reprD rfl hr.units) (by rfl) X.mrep (by decide +kernel) (pa_cons (pv 4) pa_nil)) (pv 6) (nomark _))
          (pw_or1 (pt_cmpR op_ne (pe_callB (call_reprD rfl hr.units) (by rfl) X.mrep (by decide +kernel) (pa_cons (pv 7) pa_nil)) (pe_callB (call_reprD rfl hr.units) (by rfl) X.mrep (by decide +kernel) (pa_cons (pe_call X.okD hr1 (by rfl) X.gD X.kD X.bD .nil pass0 (pa_cons (pv 4) pa_nil)) pa_nil)) (nomark _)))))
        (pss_one (ps_ret pe_bl)) pss_nil)))))))))
    (pss_one (ps_ret pe_bl))))), ?_⟩
  have sz2 : 2 ≤ sizeLine := by decide
  have sz1 : 1 ≤ sizeLine := by decide
  -- put_together([]) != []
  refine ⟨Nat.zero_le _, fun e ne => ⟨e, [], [], rfl, ⟨upd_same, .nil⟩, by decide, by decide, fun H2 p2 us2 s2 np2 hU2 _ => ?_⟩⟩
  refine ⟨Nat.zero_le _, fun e3 ne3 => ⟨_, _, race_dp (hU2.same (same_new ne3)) okr_nil, .lst (SqL.of upd_same) .nil, dR_shaped okr_nil, nil_shaped, _, rfl, ?_⟩⟩
  rw [dR_empty]
  have hS2 : SqL K (upd H2 e3 (.lst [])) a (ns.map V.int) := (same_new ne3).seq (s2.seq ((same_new ne).seq hS))
  generalize upd H2 e3 (.lst []) = H3 at hS2 ⊢
  clear s2 hU2 ne ne3 np2 hS
  refine iteF ?_
  -- put_together(run=..)
  refine ⟨sz1, fun c1 nc1 => ⟨sz2, fun t1 nt1 => ?_⟩⟩
  have A1 := lit_turn (h := 0) nc1 nt1
  generalize upd (upd H3 c1 (.lst [.non])) t1 (.tup [.int 0, .ref c1]) = H4 at A1 ⊢
  refine ⟨sz1, fun c2 nc2 => ⟨sz2, fun t2 nt2 => ?_⟩⟩
  have A2 := lit_turn (h := 0) nc2 nt2
  generalize upd (upd H4 c2 (.lst [.int 1])) t2 (.tup [.int 0, .ref c2]) = H5 at A2 ⊢
  refine ⟨sz2, fun l3 nl3 => ?_⟩
  have s5 : Same H5 (upd H5 l3 (.lst [.ref t1, .ref t2])) := same_new nl3
  refine ⟨l3, [(t1, c1), (t2, c2)], [(0, [.non]), (0, [.int 1])], rfl, ⟨upd_same, .cons (s5 _ _ (A2.1 _ _ A1.2.1)) (s5 _ _ (A2.1 _ _ A1.2.2)) (.cons (s5 _ _ A2.2.1) (s5 _ _ A2.2.2) .nil)⟩, by decide, by decide, fun H6 p6 us6 s6 np6 hU6 _ => ?_⟩
  rw [f1] at hU6
  have hS6 : SqL K H6 a (ns.map V.int) := s6.seq (s5.seq (A2.1.seq (A1.1.seq hS2)))
  clear s6 s5 A1 A2 nc1 nt1 nc2 nt2 nl3 np6 hS2
  refine ⟨sz2, fun c1 nc1 => ⟨sz2, fun t1 nt1 => ?_⟩⟩
  have A1 := lit_turn (h := 0) nc1 nt1
  have hU6 := hU6.same A1.1
  have hS6 := A1.1.seq hS6
  generalize upd (upd H6 c1 (.lst [.non, .int 1])) t1 (.tup [.int 0, .ref c1]) = H7 at A1 hU6 hS6 ⊢
  refine ⟨sz1, fun l4 nl4 => ?_⟩
  have s7 : Same H7 (upd H7 l4 (.lst [.ref t1])) := same_new nl4
  have hR7 : RaceAt (upd H7 l4 (.lst [.ref t1])) l4 [(t1, c1)] [(0, [.non, .int 1])] := ⟨upd_same, .cons (s7 _ _ A1.2.1) (s7 _ _ A1.2.2) .nil⟩
  refine ⟨_, _, race_dp (hU6.same s7) lit1, race_dp hR7 lit1, dR_shaped lit1, dR_shaped lit1, _, rfl, ?_⟩
  rw [K10.e1]
  have hS7 := s7.seq hS6
  generalize upd H7 l4 (.lst [.ref t1]) = H8 at hS7 ⊢
  clear s7 hR7 A1 hU6 hS6 nc1 nt1 nl4
  refine iteF ?_
  -- picks = [1]
  refine ⟨sz1, fun pk npk => ?_⟩
  have s8 : Same H8 (upd H8 pk (.lst [.int 1])) := same_new npk
  have hpk : (upd H8 pk (.lst [.int 1])) pk = some (.lst [.int 1]) := upd_same
  have hS8 := s8.seq hS7
  generalize upd H8 pk (.lst [.int 1]) = H9 at hpk hS8 ⊢
  clear s8 npk hS7
  -- put_together([(0, picks), ..])
  refine ⟨_, rfl, sz2, fun t1 nt1 => ?_⟩
  have s9 : Same H9 (upd H9 t1 (.tup [.int 0, .ref pk])) := same_new nt1
  have ht1 : (upd H9 t1 (.tup [.int 0, .ref pk])) t1 = some (.tup [.int 0, .ref pk]) := upd_same
  have hpk := s9 _ _ hpk
  have hS9 := s9.seq hS8
  generalize upd H9 t1 (.tup [.int 0, .ref pk]) = H10 at hpk ht1 hS9 ⊢
  refine ⟨_, rfl, sz2, fun t2 nt2 => ?_⟩
  have s10 : Same H10 (upd H10 t2 (.tup [.int 0, .ref pk])) := same_new nt2
  have ht2 : (upd H10 t2 (.tup [.int 0, .ref pk])) t2 = some (.tup [.int 0, .ref pk]) := upd_same
  have hpk := s10 _ _ hpk
  have hS10 := s10.seq hS9
  have ht1 := s10 _ _ ht1
  generalize upd H10 t2 (.tup [.int 0, .ref pk]) = H11 at hpk ht1 ht2 hS10 ⊢
  refine ⟨_, rfl, sz2, fun t3 nt3 => ?_⟩
  have s11 : Same H11 (upd H11 t3 (.tup [.int 2, .ref pk])) := same_new nt3
  have ht3 : (upd H11 t3 (.tup [.int 2, .ref pk])) t3 = some (.tup [.int 2, .ref pk]) := upd_same
  have hpk := s11 _ _ hpk
  have hS11 := s11.seq hS10
  have ht1 := s11 _ _ ht1
  have ht2 := s11 _ _ ht2
  generalize upd H11 t3 (.tup [.int 2, .ref pk]) = H12 at hpk ht1 ht2 ht3 hS11 ⊢
  refine ⟨by show 3 ≤ sizeLine; decide, fun l5 nl5 => ?_⟩
  have s12 : Same H12 (upd H12 l5 (.lst [.ref t1, .ref t2, .ref t3])) := same_new nl5
  have hpk := s12 _ _ hpk
  refine ⟨l5, [(t1, pk), (t2, pk), (t3, pk)], [(0, [.int 1]), (0, [.int 1]), (2, [.int 1])], rfl, ⟨upd_same, .cons (s12 _ _ ht1) hpk (.cons (s12 _ _ ht2) hpk (.cons (s12 _ _ ht3) hpk .nil))⟩, by decide, by decide, fun H13 p13 us13 s13 np13 hU13 _ => ?_⟩
  rw [f2] at hU13
  have hpk := s13 _ _ hpk
  have hS13 : SqL K H13 a (ns.map V.int) := s13.seq (s12.seq hS11)
  clear s13 s12 s11 s10 s9 ht1 ht2 ht3 nl5 nt1 nt2 nt3 hS8 hS9 hS10 hS11 np13
  refine ⟨sz2, fun c1 nc1 => ⟨sz2, fun t1 nt1 => ?_⟩⟩
  have A1 := lit_turn (h := 0) nc1 nt1
  have hU13 := hU13.same A1.1
  have hS13 := A1.1.seq hS13
  have hpk := A1.1 _ _ hpk
  generalize upd (upd H13 c1 (.lst [.int 1, .int 1])) t1 (.tup [.int 0, .ref c1]) = H14 at A1 hU13 hS13 hpk ⊢
  refine ⟨sz1, fun c2 nc2 => ⟨sz2, fun t2 nt2 => ?_⟩⟩
  have A2 := lit_turn (h := 2) nc2 nt2
  have hU13 := hU13.same A2.1
  have hS13 := A2.1.seq hS13
  have hpk := A2.1 _ _ hpk
  generalize upd (upd H14 c2 (.lst [.int 1])) t2 (.tup [.int 2, .ref c2]) = H15 at A2 hU13 hS13 hpk ⊢
  refine ⟨sz2, fun l6 nl6 => ?_⟩
  have s15 : Same H15 (upd H15 l6 (.lst [.ref t1, .ref t2])) := same_new nl6
  have hR15 : RaceAt (upd H15 l6 (.lst [.ref t1, .ref t2])) l6 [(t1, c1), (t2, c2)] [(0, [.int 1, .int 1]), (2, [.int 1])] := ⟨upd_same, .cons (s15 _ _ (A2.1 _ _ A1.2.1)) (s15 _ _ (A2.1 _ _ A1.2.2)) (.cons (s15 _ _ A2.2.1) (s15 _ _ A2.2.2) .nil)⟩
  refine ⟨_, _, race_dp (hU13.same s15) lit2, race_dp hR15 lit2, dR_shaped lit2, dR_shaped lit2, _, rfl, ?_⟩
  rw [K10.e2]
  have hS15 := s15.seq hS13
  have hpk := s15 _ _ hpk
  generalize upd H15 l6 (.lst [.ref t1, .ref t2]) = H16 at hS15 hpk ⊢
  clear s15 hR15 A1 A2 hU13 hS13 nc1 nt1 nc2 nt2 nl6
  refine iteF ?_
  -- picks != [1]
  refine ⟨_, rfl, sz1, fun l7 nl7 => ?_⟩
  have s16 : Same H16 (upd H16 l7 (.lst [.int 1])) := same_new nl7
  refine ⟨.list [.int 1], .list [.int 1], .lst (SqL.of (s16 _ _ hpk)) (.cons (.int 1) .nil), .lst (SqL.of upd_same) (.cons (.int 1) .nil), sh3, sh3, _, rfl, ?_⟩
  rw [K10.e3]
  have hS16 := s16.seq hS15
  generalize upd H16 l7 (.lst [.int 1]) = H17 at hS16 ⊢
  clear s16 nl7 hS15 hpk
  refine iteF ?_
  -- the cells
  refine ⟨_, rfl, a, _, rfl, .inl hS16, _, _, rfl, _, _, rfl, ?_⟩
  obtain ⟨n, en, hn⟩ : ∃ n : Nat, (if (if (20 : Int) < ((ns.map V.int).length : Int) then (20 : Int) else ((ns.map V.int).length : Int)) > 1 then (if (20 : Int) < ((ns.map V.int).length : Int) then (20 : Int) else ((ns.map V.int).length : Int)) else 1) = (n : Int) ∧ n ≤ 20 := by
    refine ⟨(if (if (20 : Int) < ((ns.map V.int).length : Int) then (20 : Int) else ((ns.map V.int).length : Int)) > 1 then (if (20 : Int) < ((ns.map V.int).length : Int) then (20 : Int) else ((ns.map V.int).length : Int)) else 1).toNat, ?_, ?_⟩ <;> (split <;> split <;> omega)
  refine ⟨(n : Int), congrArg (fun z => [V.int z]) en, by omega, by omega, ?_⟩
  rw [show ((n : Int)).toNat = n from Int.toNat_natCast n]
  refine for_range (n := n) (fun i σ H3 => ∃ y1 y2 y3 y4 y5 y6 y7 y8 y9 y10 y11, σ = [some (.ref a), y1, y2, y3, y4, y5, y6, y7, y8, y9, y10, y11] ∧ SqL K H3 a (ns.map V.int))
    ⟨some (.ref pk), none, none, none, none, none, none, none, none, none, none, rfl, hS16⟩ (fun i σ H1 hi hP => ?_) (fun σ H3 hP => ?_)
  · obtain ⟨y1, y2, y3, y4, y5, y6, y7, y8, y9, y10, y11, rfl, hS1⟩ := hP
    -- pool_here = _law_pool(script, k)
    refine ⟨_, rfl, _, rfl, a, ns, i, congrArg (fun z : Int => [V.ref a, V.int z]) (Int.zero_add (i : Int)), hS1, by omega, fun p x0 y0 np hx0 hy0 hy20 => ?_⟩
    -- race = []
    refine ⟨Nat.zero_le _, fun r nr => ?_⟩
    have hrp : r ≠ p := fun e => by
      rw [e, upd_same] at nr
      cases nr
    have nr1 : H1 r = none := by
      rw [upd_ne hrp] at nr
      exact nr
    have I0 : InvC H1 p r [] [] (upd (upd H1 p (.lst [.int x0, .int y0])) r (.lst [])) :=
      ⟨same_put (same_new np) nr1, ⟨x0, y0, by rw [upd_ne hrp.symm]; exact upd_same, hx0, hy0, hy20⟩, upd_same, .nil⟩
    generalize upd (upd H1 p (.lst [.int x0, .int y0])) r (.lst []) = H2 at I0 ⊢
    clear nr
    -- the turns drawn
    refine ⟨_, rfl, p, _, rfl, I0.pl, by decide, by decide, fun x y m hx hy hy2 hm0 hm1 => ?_⟩
    have I1 := I0.take np ⟨hrp, fun _ z => (nomatch z)⟩ hx hy hy2
    generalize upd H2 p (.lst [.int x, .int y]) = H3 at I1 ⊢
    clear I0
    refine ⟨m, rfl, by omega, by omega, ?_⟩
    refine for_range (n := m.toNat) (fun j σ H4 => ∃ z1 z5 z11 ts rs, σ = [some (.ref a), z1, some (.int (0 + (i : Int))), some (.ref p), some (.ref r), z5, y6, y7, y8, y9, y10, z11] ∧ InvC H1 p r ts rs H4 ∧ okr rs ∧ rs.length ≤ j ∧ (∀ q ∈ rs, 0 < q.2.length ∧ q.2.length ≤ 3) ∧ Off p r ts ∧ New H1 r ts)
      ⟨y1, y5, y11, [], [], rfl, I1, okr_nil, Nat.zero_le _, fun _ z => (nomatch z), ⟨hrp, fun _ z => (nomatch z)⟩, fun _ z => (nomatch z)⟩ (fun j σ H4 hj hP => ?_) (fun σ H4 hP => ?_)
    · obtain ⟨z1, z5, z11, ts, rs, rfl, I4, hok, hlen, hsz, hoff, hnew⟩ := hP
      -- picks = [..]
      refine ⟨_, rfl, p, _, rfl, I4.pl, by decide, by decide, fun x y m2 hx hy hy2 hm20 hm21 => ?_⟩
      have I5 := I4.take np hoff hx hy hy2
      generalize upd H4 p (.lst [.int x, .int y]) = H5 at I5 ⊢
      clear I4
      refine ⟨1, m2, rfl, rfl, 1 + m2, rfl, by omega, by omega, fun D hD => ?_⟩
      have offD := I5.off hD
      refine lc_range (n := (1 + m2).toNat) (fun l H6 => InvC H1 p r ts rs H6 ∧ ∃ acc, H6 D = some (.lst acc) ∧ acc.length = l ∧ ∀ v ∈ acc, okv v)
        ⟨I5.new hD, [], upd_same, rfl, fun _ z => (nomatch z)⟩ (fun l H6 hl2 hQ => ?_) (fun H6 hQ => ?_)
      · obtain ⟨I6, acc, hacc, hal, hav⟩ := hQ
        refine ⟨rfl, ?_⟩
        dsimp only [tYes]
        rw [if_pos rfl]
        refine ⟨by show 4 ≤ sizeLine; decide, fun e ne => ?_⟩
        have I7 := I6.new (o := .lst [.non, .int 0, .int 1, .int 2]) ne
        have eD : D ≠ e := ne_of_none hacc ne
        refine ⟨_, rfl, p, _, rfl, I7.pl, by decide, by decide, fun x y m3 hx hy hy2 hm30 hm31 => ?_⟩
        have I8 := I7.take np hoff hx hy hy2
        obtain ⟨v, hv1, hv2⟩ := menu hm30 hm31
        have ep : e ≠ p := (I6.off ne).2.1
        have h8e : (upd (upd H6 e (.lst [.non, .int 0, .int 1, .int 2])) p (.lst [.int x, .int y])) e = some (.lst [.non, .int 0, .int 1, .int 2]) := by
          rw [upd_ne ep]
          exact upd_same
        have h8D : (upd (upd H6 e (.lst [.non, .int 0, .int 1, .int 2])) p (.lst [.int x, .int y])) D = some (.lst acc) := by
          rw [upd_ne offD.2.1, upd_ne eD]
          exact hacc
        refine ⟨e, _, m3, v, rfl, rfl, SqL.of h8e, hv1, acc, h8D, small1000 (by omega), I8.put offD.1 offD.2.1 offD.2.2, acc ++ [v], upd_same, ?_, fun u hu => ?_⟩
        · rw [List.length_append, hal]
          rfl
        · rcases List.mem_append.mp hu with hu | hu
          · exact hav u hu
          · rw [List.mem_singleton.mp hu]
            exact hv2
      · obtain ⟨I6, acc, hacc, hal, hav⟩ := hQ
        -- race.append((take, picks))
        refine ⟨_, rfl, .inl ⟨rfl, _, SqL.of I6.ra.1⟩, _, rfl, p, _, rfl, I6.pl, by decide, by decide, fun x y h hx hy hy2 hh0 hh1 => ?_⟩
        have I7 := I6.take np hoff hx hy hy2
        have hD7 : (upd H6 p (.lst [.int x, .int y])) D = some (.lst acc) := by
          rw [upd_ne offD.2.1]
          exact hacc
        generalize upd H6 p (.lst [.int x, .int y]) = H7 at I7 hD7 ⊢
        refine ⟨_, rfl, by show 2 ≤ sizeLine; decide, fun t nt => ?_⟩
        have offt := I7.off nt
        have I8 := I7.new (o := .tup [.int h, .ref D]) nt
        have hD8 := same_new (o := .tup [.int h, .ref D]) nt _ _ hD7
        have ht8 : (upd H7 t (.tup [.int h, .ref D])) t = some (.tup [.int h, .ref D]) := upd_same
        generalize upd H7 t (.tup [.int h, .ref D]) = H8 at I8 hD8 ht8 ⊢
        refine ⟨r, _, _, rfl, rfl, I8.ra.1, ?_, some (.ref D), some (.int (0 + (j : Int))), z11, ts ++ [(t, D)], rs ++ [(h, acc)], rfl, ⟨same_put I8.sm nr1, ?_, ?_, ?_⟩, okr_snoc ⟨hh0, by omega⟩ hav hok, ?_, ?_, ?_, ?_⟩
        · rw [List.length_map, I8.ra.2.len]
          exact small1000 (by omega)
        · obtain ⟨x1, y1, k1, k2⟩ := I8.pl
          exact ⟨x1, y1, by rw [upd_ne hrp.symm]; exact k1, k2⟩
        · rw [map_snoc]
          exact upd_same
        · have hT : Tns H8 (ts ++ [(t, D)]) (rs ++ [(h, acc)]) := Tns.snoc (t := (t, D)) (r := (h, acc)) ht8 hD8 I8.ra.2
          refine hT.put I8.ra.1 fun z hz => ?_
          rcases List.mem_append.mp hz with hz | hz
          · exact (hnew z hz).2.2
          · rw [List.mem_singleton.mp hz]
            exact fun e => offD.2.2.1 e.symm
        · rw [List.length_append]
          show rs.length + 1 ≤ j + 1
          omega
        · intro q hq
          rcases List.mem_append.mp hq with hq | hq
          · exact hsz q hq
          · rw [List.mem_singleton.mp hq]
            show 0 < acc.length ∧ acc.length ≤ 3
            omega
        · refine ⟨hoff.1, fun z hz => ?_⟩
          rcases List.mem_append.mp hz with hz | hz
          · exact hoff.2 z hz
          · rw [List.mem_singleton.mp hz]
            exact ⟨offt.2.1, offD.2.1⟩
        · intro z hz
          rcases List.mem_append.mp hz with hz | hz
          · exact hnew z hz
          · rw [List.mem_singleton.mp hz]
            exact ⟨offt.1, offD.1, fun e => offD.2.2.1 e.symm⟩
    · obtain ⟨z1, z5, z11, ts, rs, rfl, I4, hok, hlen, hsz, hoff, hnew⟩ := hP
      have hl12 : rs.length ≤ 12 := by omega
      have htot : tot rs ≤ 3 * rs.length := tot_le rs fun q hq => (hsz q hq).2
      have ht36 : tot rs ≤ 36 := by omega
      have hokF := okr_fold hok
      have hlF : (fold rs).length ≤ 12 := Nat.le_trans (len_fold rs) hl12
      have htF : tot (fold rs) ≤ 36 := by rw [tot_fold]; exact ht36
      -- kept = repr(race)
      refine ⟨_, rfl, _, dR rs, rfl, race_dp I4.ra hok, nice_show (dR_nice hok), dR_depth rs, dR_fits hok (by omega) (by omega), ?_⟩
      -- due_here = due(race)
      refine ⟨_, rfl, r, ts, rs, rfl, I4.ra, by omega, by omega, hok, fun H5 d ds s5 nd5 hD5 hN5 => ?_⟩
      have hS5 : SqL K H5 a (ns.map V.int) := s5.seq (I4.sm.seq hS1)
      have hR5 := I4.ra.same s5
      have hP5 : Pool H5 p := by
        obtain ⟨x1, k1, k2, k3⟩ := I4.pl
        exact ⟨x1, k1, s5 _ _ k2, k3⟩
      have offd : Off p d ds := by
        obtain ⟨x1, k1, k2, k3⟩ := I4.pl
        have nop : ∀ z, H4 z = none → z ≠ p := fun z hz e => by
          rw [e, k2] at hz
          cases hz
        exact ⟨nop _ nd5, fun t m => ⟨nop _ (hN5 t m).1, nop _ (hN5 t m).2.1⟩⟩
      have sm5 : Same H1 H5 := I4.sm.trans s5
      -- for item in [race, parted(pool_here, race), due_here]
      refine ⟨_, rfl, _, rfl, _, rfl, p, r, ts, rs, rfl, hP5, hR5, hoff, fun q hq => (hsz q hq).1, by omega, by omega, fun H6 o us ps sX6 pl6 no6 hU6 hN6 hf6 hln6 htt6 => ⟨_, rfl, by show 3 ≤ sizeLine; decide, fun L nL => ?_⟩⟩
      have sL : Same H6 (upd H6 L (.lst [.ref r, .ref o, .ref d])) := same_new nL
      have sm6 : Same H1 H6 := fun b x e => sX6 b x (ne_of_none e np) (sm5 b x e)
      have hS7 := (sm6.trans sL).seq hS1
      have hR7 := (hR5.sameX sX6 hoff).same sL
      have hD7 := (hD5.sameX sX6 offd).same sL
      have hU7 := hU6.same sL
      have hL7 : (upd H6 L (.lst [.ref r, .ref o, .ref d])) L = some (.lst [.ref r, .ref o, .ref d]) := upd_same
      generalize upd H6 L (.lst [.ref r, .ref o, .ref d]) = H7 at hS7 hR7 hD7 hU7 hL7 ⊢
      refine ⟨L, rfl, ⟨_, SqL.of hL7⟩, for_list (xs := [.ref r, .ref o, .ref d])
        (fun j σ H8 => ∃ w1 w5 w8 w9 w10 w11, σ = [some (.ref a), w1, some (.int (0 + (i : Int))), some (.ref p), some (.ref r), w5, some (.str (dR rs).shown), some (.ref d), w8, w9, w10, w11] ∧ Same H7 H8)
        ⟨z1, z5, y8, y9, y10, z11, rfl, same_refl⟩ (fun j σ H8 _ hP => ?_) (fun j x σ H8 hx hP => ?_) (fun σ H8 hP => ?_)⟩
      · obtain ⟨_, _, _, _, _, _, _, sm⟩ := hP
        exact SqL.of (sm _ _ hL7)
      · obtain ⟨w1, w5, w8, w9, w10, w11, rfl, sm8⟩ := hP
        obtain ⟨b, tb, qb, rfl, hB, hBf, hBl, hBt⟩ : ∃ (b : Addr) (tb : List (Addr × Addr)) (qb : List Tn), x = .ref b ∧ RaceAt H7 b tb qb ∧ fold qb = fold rs ∧ qb.length ≤ 1000 ∧ tot qb ≤ 1000 := by
          match j, hx with
          | 0, hx => exact ⟨r, ts, rs, (Option.some.inj hx).symm, hR7, rfl, by omega, by omega⟩
          | 1, hx => exact ⟨o, us, ps, (Option.some.inj hx).symm, hU7, hf6, by omega, by omega⟩
          | 2, hx => exact ⟨d, ds, fold rs, (Option.some.inj hx).symm, hD7, fold_fold rs, by omega, by omega⟩
          | j + 3, hx => simp at hx
        -- for turn in range(2)
        refine ⟨2, rfl, by decide, by decide, for_range (n := 2)
          (fun l σ H9 => ∃ w1 w5 w9 w10 w11, σ = [some (.ref a), w1, some (.int (0 + (i : Int))), some (.ref p), some (.ref r), w5, some (.str (dR rs).shown), some (.ref d), some (.ref b), w9, w10, w11] ∧ Same H7 H9)
          ⟨w1, w5, w9, w10, w11, rfl, sm8⟩ (fun l σ H9 _ hP => ?_) (fun σ H9 hP => ?_)⟩
        · obtain ⟨w1, w5, w9, w10, w11, rfl, sm9⟩ := hP
          -- found = put_together(item)
          refine ⟨_, rfl, b, tb, qb, rfl, hB.same sm9, hBl, hBt, fun H10 f fs s10 nf hF hNF => ?_⟩
          rw [hBf] at hF
          have sm10 := sm9.trans s10
          refine ⟨_, rfl, _, _, rfl, .lst hF.1, true, rfl, iteF ?_⟩
          refine ⟨_, rfl, _, dR (fold rs), rfl, race_dp hF hokF, nice_show (dR_nice hokF), dR_depth _, dR_fits hokF (by omega) (by omega), ?_⟩
          refine ⟨_, rfl, _, dR (fold rs), rfl, race_dp (hD7.same sm10) hokF, nice_show (dR_nice hokF), dR_depth _, dR_fits hokF (by omega) (by omega), ?_⟩
          refine ⟨rfl, _, rfl, iteNS rfl ?_⟩
          -- for who, picks in found
          have nf7 : H7 f = none := same_none sm9 nf
          have n7 : ∀ t ∈ fs, H7 t.2 = none ∧ t.2 ≠ f := fun t m => ⟨same_none sm9 (hNF t m).2.1, (hNF t m).2.2⟩
          refine ⟨_, rfl, f, rfl, ⟨_, SqL.of hF.1⟩, for_list (xs := fs.map fun t => V.ref t.1)
            (fun c σ H11 => ∃ v1 v10, σ = [some (.ref a), v1, some (.int (0 + (i : Int))), some (.ref p), some (.ref r), some (.int (0 + (l : Int))), some (.str (dR rs).shown), some (.ref d), some (.ref b), some (.ref f), v10, w11] ∧ Same H7 H11 ∧ H11 f = some (.lst (fs.map fun t => V.ref t.1)) ∧
              ∀ t ∈ fs, (∃ h : Int, H11 t.1 = some (.tup [.int h, .ref t.2])) ∧ ∃ xs, H11 t.2 = some (.lst xs) ∧ xs.length ≤ 1000 + c)
            ⟨w1, w10, rfl, sm10, hF.1, fun t m => ?_⟩ (fun c σ H11 _ hP => ?_) (fun c x σ H11 hx hP => ?_) (fun σ H11 hP => ?_)⟩
          · obtain ⟨q, hq, k1, k2⟩ := hF.2.mem m
            exact ⟨⟨_, k1⟩, _, k2, Nat.le_trans (tot_mem hq) (by omega)⟩
          · obtain ⟨_, _, _, _, hf, _⟩ := hP
            exact SqL.of hf
          · obtain ⟨v1, v10, rfl, sm11, hf11, hall⟩ := hP
            rw [List.getElem?_map] at hx
            obtain ⟨t, g, rfl⟩ := Option.map_eq_some_iff.mp hx
            have hm := List.mem_of_getElem? g
            obtain ⟨⟨h, k1⟩, xs, k2, k3⟩ := hall t hm
            have hc : c < fs.length := (List.getElem?_eq_some_iff.mp g).1
            have hfl : fs.length ≤ 12 := by rw [hF.2.len]; exact hlF
            refine ⟨t.1, _, rfl, SqT.of k1, rfl, _, _, rfl, _, _, rfl, rfl, ?_⟩
            refine ⟨_, rfl, .inl ⟨rfl, _, SqL.of k2⟩, t.2, xs, _, rfl, rfl, k2, ?_, some (.ref t.2), some (.int h), rfl, same_put sm11 (n7 t hm).1, ?_, fun u hu => ⟨?_, ?_⟩⟩
            · exact Nat.lt_of_le_of_lt (show xs.length ≤ 2000 by omega) (by decide)
            · rw [upd_ne (fun e => (n7 t hm).2 e.symm)]
              exact hf11
            · obtain ⟨⟨h2, j1⟩, _⟩ := hall u hu
              exact ⟨h2, by rw [upd_ne (ne_of j1 k2 (by intro z; cases z))]; exact j1⟩
            · obtain ⟨_, ys, j2, j3⟩ := hall u hu
              by_cases e : u.2 = t.2
              · refine ⟨xs ++ [.int 9], by rw [e]; exact upd_same, ?_⟩
                rw [List.length_append]
                show xs.length + 1 ≤ _
                omega
              · exact ⟨ys, by rw [upd_ne e]; exact j2, by omega⟩
          · obtain ⟨v1, v10, rfl, sm11, hf11, hall⟩ := hP
            -- found.append(None)
            refine ⟨_, rfl, .inl ⟨rfl, _, SqL.of hf11⟩, f, _, _, rfl, rfl, hf11, ?_, v1, some (.int (0 + (l : Int))), some (.ref f), v10, w11, rfl, same_put sm11 nf7⟩
            rw [List.length_map, hF.2.len]
            exact small1000 (by omega)
        · obtain ⟨w1, w5, w9, w10, w11, rfl, sm9⟩ := hP
          exact ⟨w1, w5, some (.ref b), w9, w10, w11, rfl, sm9⟩
      · obtain ⟨w1, w5, w8, w9, w10, w11, rfl, sm8⟩ := hP
        -- the end of a cell
        refine ⟨_, rfl, _, dR rs, rfl, race_dp (hR7.same sm8) hok, nice_show (dR_nice hok), dR_depth rs, dR_fits hok (by omega) (by omega), _, rfl, rfl, _, rfl, ?_⟩
        rw [show (!decide (V.str (dR rs).shown = V.str (dR rs).shown)) = false by rw [decide_eq_true rfl]; rfl]
        refine iteF ?_
        refine ⟨_, rfl, _, dR (fold rs), rfl, race_dp (hD7.same sm8) hokF, nice_show (dR_nice hokF), dR_depth _, dR_fits hokF (by omega) (by omega), ?_⟩
        refine ⟨_, rfl, r, ts, rs, rfl, hR7.same sm8, by omega, by omega, hok, fun H9 d2 ds2 s9 _ hD9 _ => ?_⟩
        refine ⟨_, dR (fold rs), rfl, race_dp hD9 hokF, nice_show (dR_nice hokF), dR_depth _, dR_fits hokF (by omega) (by omega), rfl, _, rfl, iteNS rfl ?_⟩
        exact ⟨w1, _, _, _, w5, _, _, w8, w9, w10, w11, rfl, s9.seq (sm8.seq hS7)⟩
  · exact rfl
end
end K10

set_option maxHeartbeats 8000000
namespace K10
open PySem PySem.Spec PyProof.Rows L2 G0 G1 G3 G4
/-- run by place or by its name -/
theorem put_named {K : PySem.W.Frag} {f : Addr} {fd : FuncData} (F : Fun K "put_together" "put_together" sPut f fd) : KBinds K fd ["run"] ["run"] (fun us ws => us ++ ws) (fun vs zs => vs ++ zs) := by
  obtain ⟨oc, od, kV, doc, pm, an, cdv, ct, osl, rfl, lk, hcd⟩ := F.ex
  refine ⟨fun s us ws _ hl => ?_, fun r1 r2 => r1.append r2⟩
  match us, ws, hl with
  | [], [v], _ => exact .of_eq rfl
  | [v], [], _ => exact .of_eq rfl
  | [], [], h => simp at h
  | _ :: _ :: _, _, h => simp at h
  | [_], _ :: _, h => simp at h
  | [], _ :: _ :: _, h => simp at h
/-- a def where the top has put it -/
def At (K : PySem.W.Frag) (x : Str) (st : Stmt) (f : Addr) : Prop :=
  PySem.W.nsIn K mainGlobals x = some (some (.ref f)) ∧ ∃ (od an : Option Addr) (sl : Array (Option Value)) (oc kV dc pm cd ct : Value),
    K.lookup f = some ⟨oc, od, .func (PySem.W.fnOf x x (defArgs st) (defBody st) (defScope st) .none kV dc pm an cd ct), sl⟩ ∧ PySem.W.codeIn K cd x = true ∧ PySem.W.keepIn K (.ref f) = true
theorem at_mk {K : PySem.W.Frag} {x : Str} {st : Stmt} {f : Addr} {od an : Option Addr} {sl : Array (Option Value)} {oc kV dc pm cd ct : Value} (a : PySem.W.nsIn K mainGlobals x = some (some (.ref f)))
    (l : K.lookup f = some ⟨oc, od, .func (PySem.W.fnOf x x (defArgs st) (defBody st) (defScope st) .none kV dc pm an cd ct), sl⟩) (c : PySem.W.codeIn K cd x = true) (k : PySem.W.keepIn K (.ref f) = true) : At K x st f := ⟨a, od, an, sl, oc, kV, dc, pm, cd, ct, l, c, k⟩
theorem At.fn {K : PySem.W.Frag} {x : Str} {st : Stmt} {f : Addr} (h : At K x st f) : ∃ fd, Fun K x x st f fd := by
  obtain ⟨_, od, an, sl, oc, kV, dc, pm, cd, ct, l, c, k⟩ := h
  exact ⟨_, fun_mk l c k⟩
theorem all_mk {P : Program} {w : World} {K : PySem.W.Frag} {h : Heap} {mg : Str → Option Value} {fa fP fO fT fD fR fL : Addr} (X : K.In h) (G : h.Ns mainGlobals mg) (hfa : mg "law" = some (.ref fa))
    (aP : At K "put_together" sPut fP) (aO : At K "_law_pool" sPool fO) (aT : At K "_law_take" sTake fT) (aD : At K "_law_due" sDue fD) (aR : At K "_law_parted" sParted fR) (aL : At K "law" sLaw fL)
    (z1 : PySem.W.nsIn K mainGlobals "len" = some none) (z2 : PySem.W.nsIn K mainGlobals "max" = some none) (z3 : PySem.W.nsIn K mainGlobals "min" = some none) (z4 : PySem.W.nsIn K mainGlobals "range" = some none)
    (z5 : PySem.W.nsIn K mainGlobals "repr" = some none) (z6 : PySem.W.nsIn K mainGlobals "isinstance" = some none) (z7 : PySem.W.nsIn K mainGlobals "list" = some none) (z8 : PySem.W.nsIn K mainGlobals "abs" = some none) (z9 : PySem.W.nsIn K mainGlobals "int" = some none) :
    LawDef P w K mg 2 fa "_law_script" (fun H a ns => SqL K H a (ns.map V.int) ∧ ns.length ≤ 63) := by
  have e := hfa.symm.trans (PySem.W.mg_of X G aL.1)
  cases e
  obtain ⟨dP, FP⟩ := aP.fn
  obtain ⟨dO, FO⟩ := aO.fn
  obtain ⟨dT, FT⟩ := aT.fn
  obtain ⟨dD, FD⟩ := aD.fn
  obtain ⟨dR, FR⟩ := aR.fn
  have bP := FP.binds (ps := ["run"]) fun _ _ _ _ _ _ us hl => match us, hl with | [_], _ => rfl
  have bO := FO.binds (ps := ["_law_script", "_law_k"]) fun _ _ _ _ _ _ us hl => match us, hl with | [_, _], _ => rfl
  have bT := FT.binds (ps := ["_law_pool_here", "_law_many"]) fun _ _ _ _ _ _ us hl => match us, hl with | [_, _], _ => rfl
  have bD := FD.binds (ps := ["_law_race"]) fun _ _ _ _ _ _ us hl => match us, hl with | [_], _ => rfl
  have bR := FR.binds (ps := ["_law_pool_here", "_law_race"]) fun _ _ _ _ _ _ us hl => match us, hl with | [_, _], _ => rfl
  have n1 := PySem.W.mg_none_of X G z1
  have n7 := PySem.W.mg_none_of X G z7
  obtain ⟨_, od, an, sl, oc, kV, dc, pm, cd, ct, l, c, k⟩ := aL
  refine ⟨_, "law", "law", defArgs sLaw, defBody sLaw, defScope sLaw, .none, kV, dc, pm, cd, ct, oc, an, od, sl, nLaw, rfl, l, c, scLaw, fun s v => .of_eq rfl, fun base _ _ s H a ns hw hr => ?_⟩
  have okT : FnOk P w K mg base CX0 1 fT dT ["_law_pool_here", "_law_many"] spTake := ok_take FT
  obtain ⟨t, h1, h2⟩ := law_body (P := P) (w := w) (K := K) (mg := mg) (base := base)
    { fP := fP, dP := dP, fO := fO, dO := dO, fT := fT, dT := dT, fD := fD, dD := dD, fR := fR, dR := dR,
      okP := ok_put FP n7, okO := ok_pool FO n1 (PySem.W.mg_none_of X G z8) (PySem.W.mg_none_of X G z9), okT := okT, okD := ok_due FD n7, okR := ok_parted FR okT FT.kp bT (PySem.W.mg_of X G aT.1) n1,
      kP := FP.kp, kO := FO.kp, kT := FT.kp, kD := FD.kp, kR := FR.kp, bP := bP, bK := put_named FP, bO := bO, bT := bT, bD := bD, bR := bR,
      gP := PySem.W.mg_of X G aP.1, gO := PySem.W.mg_of X G aO.1, gT := PySem.W.mg_of X G aT.1, gD := PySem.W.mg_of X G aD.1, gR := PySem.W.mg_of X G aR.1,
      mlen := n1, mmax := PySem.W.mg_none_of X G z2, mmin := PySem.W.mg_none_of X G z3, mran := PySem.W.mg_none_of X G z4, mrep := PySem.W.mg_none_of X G z5, misi := PySem.W.mg_none_of X G z6, mlis := n7 } hw.1 hw.2 hr
  exact ⟨t, h1.nox, h2⟩
end K10
open PySem PySem.W PyProof.Rows
set_option maxHeartbeats 0 in
theorem PySem.Challenge.cw_fewturnsover_k10_turns_put_together_holds : PySem.Challenge.rw_fewturnsover_k10_turns_put_together.Holds := by
  w_on; o_law; k_head; (case hw => w_witness2)
  k_fill
  refine G2.walk_G (l := PySem.Challenge.rw_fewturnsover_k10_turns_put_together) (n := 63) (k := 2) (x := "_law_script") (fun K H a ns => L2.SqL K H a (ns.map L2.V.int) ∧ ns.length ≤ 63) rfl (by decide) rfl ⟨rfl, by decide, by decide⟩ (fun w h Y => PySem.W.kIn_of Y) ?F (fun _ _ _ _ hl _ hS => ⟨hS, hl⟩)
  case F =>
    intro w mg fa h KX G hmg
    refine' K10.all_mk KX G hmg (K10.at_mk ?a1 ?b1 ?c1 ?d1) (K10.at_mk ?a2 ?b2 ?c2 ?d2) (K10.at_mk ?a3 ?b3 ?c3 ?d3) (K10.at_mk ?a4 ?b4 ?c4 ?d4) (K10.at_mk ?a5 ?b5 ?c5 ?d5) (K10.at_mk ?a6 ?b6 ?c6 ?d6) ?z1 ?z2 ?z3 ?z4 ?z5 ?z6 ?z7 ?z8 ?z9
    (case a1 => k_is); (case b1 => k_is); (case c1 => k_is); (case d1 => k_is)
    (case a2 => k_is); (case b2 => k_is); (case c2 => k_is); (case d2 => k_is)
    (case a3 => k_is); (case b3 => k_is); (case c3 => k_is); (case d3 => k_is)
    (case a4 => k_is); (case b4 => k_is); (case c4 => k_is); (case d4 => k_is)
    (case a5 => k_is); (case b5 => k_is); (case c5 => k_is); (case d5 => k_is)
    (case a6 => k_is); (case b6 => k_is); (case c6 => k_is); (case d6 => k_is)
    (case z1 => k_is); (case z2 => k_is); (case z3 => k_is); (case z4 => k_is); (case z5 => k_is); (case z6 => k_is); (case z7 => k_is); (case z8 => k_is); (case z9 => k_is)
