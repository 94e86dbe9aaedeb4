import PyProof.Rows.All
import Wide.All
import OpenK.AllK
import Wide.FinOn
import HandS.ForMost
import HandS.Walk
import KE.GoesEnum
import HandS.Exc
import HandS.ExcOwn
import HandS.ExcInit
import HandS.ExcField
import HandS.TryOnly
import HandS.WordsExc
import HandS.IsInst
import HandS.Wide
import HandS.TupAny
import HandS.Flow
import HandS.Evl
import HandS.Deep
import HandS.Conv
import HandS.WideBits
import HandS.NoneIn
import HandS.Zip
import HandS.Rev
import PyProof.StrBlock2
import KE.DataMinMax
import HandS.SortRule
import KE.SortData
import KE.GoesZip
import KE.GoesMore
import KE.KRevSl
import HandS.Flt
import KE.KDictZip
import HandS.ExcIs
import KE.KExcIs
import PyProof.SeqIndex
import HandS.Small
import HandS.ListItems
import HandS.SetFor
import HandS.Iter
import HandS.Star
import HandS.StrMore
import HandS.Defaults
import PyProof.StrLawsLast
import HandS.SortInts
import HandS.Strs
import KE.KSortKey
import HandS.SortKw
import HandS.ReplaceLit
import HandS.ReplaceList
import HandS.Text
import PyProof.StrLawsReplace
import KE.IntTextLaws
import HandS.ReplaceDef
import HandS.Dict
import PySem.Challenge.RW_deedstand_k18_whole_words_read
set_option Elab.async false
set_option linter.all false
set_option maxRecDepth 100000
set_option maxHeartbeats 4000000
/-! enumerate over a tuple and over a text, one argument -/
namespace Dk
open PySem PySem.Spec PyProof.Rows L2
/-- the object that enumerate(v) makes -/
abbrev enObj (it : Addr) : Obj := { cls := .type "enumerate", data := .fields #[.none, .bool false, .ref it, rawInt 0, .none, .none] }
theorem enum_new1 {v : Value} {o : Obj} {G : Heap → Prop} (B : Begins v o G) :
    Meets (Builtin.«enumerate.__new__» ⟨[.type "enumerate", v], []⟩) fun _ R s =>
      G s.heap ∧ R (.ok (.ret (.ref (s.heap.push o).objs.size))) { s with heap := (s.heap.push o).push (enObj s.heap.objs.size) } := by
  refine .of_wp fun prog w A R s hh => ?_
  rcases s with ⟨hp, gs, dr, tk, os⟩
  obtain ⟨hG, hR⟩ := hh
  have hs := sub_enumerate
  have go : ∀ {A' : Around} {E : Value → Shared → Prop} {Q : Value → Shared → Prop},
      Q (.ref hp.objs.size) ⟨hp.push o, gs, dr, tk, os⟩ → wpAny (model prog w) A' (pyIter v) Q E ⟨hp, gs, dr, tk, os⟩ :=
    fun q => B.iter prog w _ _ ⟨hp, gs, dr, tk, os⟩ _ hG q
  wp_walk using go
  refine wpAny_stack_any fun st => ?_
  refine wpAny_pure ?_
  split
  · rename_i c _ _ _ _ _
    cases (c == Value.type "enumerate") <;> (wp_walk using go; exact ⟨_, rfl, hR⟩)
  · wp_walk using go
    exact ⟨_, rfl, hR⟩
section
variable {prog : Program} {w : World} {A : Around} {E : Value → Shared → Prop} {s : Shared}
theorem enum_call1 {v : Value} {o : Obj} {G : Heap → Prop} {Q : Value → Shared → Prop} (B : Begins v o G) (hG : G s.heap)
    (q : ∀ h', IsEnum h' (s.heap.objs.size + 1) s.heap.objs.size 0 .none → h'.get? s.heap.objs.size = some o →
      (∀ b u, s.heap.get? b = some u → h'.get? b = some u) → Q (.ref (s.heap.objs.size + 1)) { s with heap := h' }) :
    wpAny (model prog w) A (call (.type "enumerate") [v]) Q E s := by
  have sz : (s.heap.push o).objs.size = s.heap.objs.size + 1 := Heap.size_push ..
  have he : IsEnum ((s.heap.push o).push (enObj s.heap.objs.size)) (s.heap.objs.size + 1) s.heap.objs.size 0 .none := by
    have z := Heap.get?_push_size (s.heap.push o) (o := enObj s.heap.objs.size) rfl
    rw [sz] at z
    exact z
  refine callType_new F.called_enumerate (by decide) (F.typeCall_enumerate_1 _) (F.newCall_enumerate_1 _)
    (fun obj => F.args_object_init_2 obj _) F.entry_enumerate_new (enum_new1 B) ⟨hG, ?_⟩
  show _ ∧ _
  rw [sz]
  exact ⟨⟨_, he, rfl⟩, q _ he (Heap.get?_push_of_some _ (Heap.get?_push_size _ B.free))
    fun b u z => Heap.get?_push_of_some _ (Heap.get?_push_of_some _ z)⟩
end
/-- a new pair of the turn's number and f i -/
def ItE (G : Hp → Prop) (n : Nat) (Y : Nat → Hp → V → Prop) : It :=
  ⟨fun i H => G H ∧ i < n, fun i H v H' => ∃ T x, v = .ref T ∧ H T = none ∧ H' = upd H T (.tup [.int (i : Nat), x]) ∧ Y i H x, fun i H => G H ∧ i = n⟩
/-- what the source's own iterator does while the heap is so -/
structure Src (P : Program) (w : World) (K : PySem.W.Frag) (it : Addr) (G : Hp → Prop) (n : Nat) (Y : Nat → Hp → V → Prop) (Tn : Nat → Heap → Prop) : Prop where
  live : ∀ i h, Tn i h → ∃ o, h.get? it = some o ∧ ∀ v, o.data ≠ .cell v
  keep : ∀ i h h', Tn i h → (∀ o, h.get? it = some o → h'.get? it = some o) → Tn i h'
  draw : ∀ (X : Cx), X.prog = P → X.w = w → X.K = K → ∀ (pins : List (Addr × Obj)) (σ : L2.St) (H : Hp) (s : Shared) (i : Nat), Inv X pins σ H s → H it = none → G H → Tn i s.heap → X.A.handled = none →
    ∃ (fp : List Addr) (Pv : Nat → Value → Prop) (St' : Nat → Heap → Prop), Draws P w X.A.in1 it fp n Pv St' ∧ St' i s.heap ∧ (∀ e, H e = none → (∃ old j, IsEnum s.heap e it j old) → e ∉ fp) ∧
      (∀ j u, Pv j u → ∃ x, RelV x u ∧ Y j H x) ∧ ∀ j h, St' j h → Tn j h
theorem turn_E {P : Program} {w : World} {K : PySem.W.Frag} {elts : List Expr} {kk : Nat} {tpos : Pos} {e it : Addr} {G : Hp → Prop} {n : Nat} {Y : Nat → Hp → V → Prop} {Tn : Nat → Heap → Prop} (S : Src P w K it G n Y Tn) :
    Turn P w K (.Tuple elts kk tpos) (ItE G n Y) [e, it] e (fun i h => (∃ old, IsEnum h e it ((i : Nat) : Int) old) ∧ Tn i h ∧ e ≠ it) where
  mem := List.mem_cons_self ..
  obj := fun i h st b hb => by
    obtain ⟨⟨old, he⟩, hs, _⟩ := st
    rcases List.mem_cons.mp hb with z | z
    · subst z
      exact ⟨_, he, fun v q => nomatch q⟩
    · have z' := List.mem_singleton.mp z
      subst z'
      exact S.live i h hs
  keep := fun i h h' st k =>
    ⟨⟨st.1.choose, k e (List.mem_cons_self ..) _ st.1.choose_spec⟩, S.keep i h h' st.2.1 fun o q => k it (List.mem_cons_of_mem _ (List.mem_singleton.mpr rfl)) o q, st.2.2⟩
  item := by
    intro X hP hw hK hc i pins s σ H E I hf st hg
    obtain ⟨⟨old, he⟩, hs, hne⟩ := st
    have fe := hf e (by simp)
    have fi := hf it (by simp)
    obtain ⟨fp, Pv, St', D, hs', hef, hy, back⟩ := S.draw X hP hw hK pins σ H s i I fi.1 hg.1 hs (I.ok.hd hc)
    subst hP hw hK
    have hel : e < s.heap.objs.size := Heap.lt_size he
    obtain ⟨oi, hoi, _⟩ := S.live i _ hs
    have hil : it < s.heap.objs.size := Heap.lt_size hoi
    refine wpAny_pyNext_enum_itemC D he hs' hg.2 hne (hef e fe.1 ⟨_, _, he⟩) fun u h' tk hu ho hst hT hsz hk => ?_
    refine ⟨_, rfl, wpAny_letOwnedTupleGo_enum (s := { s with heap := h', toks := tk + 1 }) ho fun h2 he2 sb => ?_⟩
    obtain ⟨x, rx, yx⟩ := hy i u hu
    have hT2 : h2.get? s.heap.objs.size = some { cls := .type "tuple", data := .seq #[.int i tk, u] } := (sb.2 _ (Nat.ne_of_gt hel)).trans hT
    have new : ObjOk X.prog X.w (upd H s.heap.objs.size (.tup [.int (i : Nat), x])) h2 s.heap.objs.size (.tup [.int (i : Nat), x]) :=
      ⟨by show 2 ≤ sizeLine; decide, [.int i tk, u], .cons ⟨_, rfl⟩ (.cons rx .nil), _, hT2, rfl, _, rfl⟩
    have I1 : Inv X pins σ (upd H s.heap.objs.size (.tup [.int (i : Nat), x])) { s with heap := h2, toks := tk + 1 } := by
      refine I.turnedNew (ch := [e, it]) (fun b o hb q => ?_) hf (Nat.le_refl _) new
      have n1 : b ≠ e := fun z => hb (by simp [z])
      have n2 : b ≠ it := fun z => hb (by simp [z])
      exact (sb.2 b n1).trans (hk b o n1 n2 q)
    refine ⟨.ref s.heap.objs.size, _, I1, rfl, ⟨_, x, rfl, I.hok.fresh (Nat.le_refl _), rfl, yx⟩, ⟨⟨u, ?_⟩, ?_, hne⟩, fun b hb => ?_⟩
    · have e1 : ((i + 1 : Nat) : Int) = (i : Int) + 1 := by omega
      rw [e1]
      exact he2
    · exact S.keep _ _ _ (back _ _ hst) fun o q => (sb.2 it (Ne.symm hne)).trans q
    · have hb' : b < s.heap.objs.size := by
        rcases List.mem_cons.mp hb with z | z
        · exact z ▸ hel
        · exact (List.mem_singleton.mp z) ▸ hil
      rw [upd_ne (Nat.ne_of_lt hb')]
      exact (hf b hb).1
  done := by
    intro X hP hw hK hc i pins s σ H E I hf st hg
    obtain ⟨⟨old, he⟩, hs, hne⟩ := st
    obtain ⟨f0, f1, f2, f3, f4, f5⟩ := hf it (by simp)
    obtain ⟨fp, Pv, St', D, hs', hef, hy, back⟩ := S.draw X hP hw hK pins σ H s i I f0 hg.1 hs (I.ok.hd hc)
    subst hP hw hK
    rw [hg.2] at hs'
    exact wpAny_pyNext_enum_endD D he hs' fun h' eb => ⟨rfl, I.turned (t' := s.toks) (fun b o hb q => eb b o hb q) f0 f1 f3 f4 f5⟩
  self := fun A i s Q E st h => wpAny_pyIter_enum st.1.choose_spec h
theorem src_tup {P : Program} {w : World} {K : PySem.W.Frag} {a it : Addr} {xs : List V} :
    Src P w K it (fun H => SqT K H a xs) xs.length (fun i _ x => xs[i]? = some x) (fun i h => h.IsTupleIter it a i) where
  live := fun i h st => by
    obtain ⟨o, e, c, d⟩ := st
    exact ⟨o, e, fun v z => by rw [d] at z; cases z⟩
  keep := fun i h h' st k => st.at fun o e => k o e
  draw := by
    intro X hP hw hK pins σ H s i I hn hG st hh
    subst hP hw hK
    obtain ⟨its, rv, p, hz⟩ := I.tuple hG
    have pt : s.heap.IsTuple a its.toArray := p
    have hne : a ≠ it := by
      rintro rfl
      obtain ⟨o, e, c, _⟩ := pt
      obtain ⟨o', e', c', _⟩ := id st
      rw [e] at e'
      cases e'
      rw [c] at c'
      injection c' with q
      exact absurd q (by decide)
    have hl := rv.length
    refine ⟨[it, a], fun i v => its.toArray[i]? = some v, fun i h => h.IsTupleIter it a i ∧ h.IsTuple a its.toArray, ?_, ⟨st, pt⟩, fun e he hq => ?_, fun j u hu => ?_, fun j h z => z.1⟩
    · have D := Draws.tuple (prog := X.prog) (w := X.w) (A := X.A.in1) hh it a hne its.toArray
      rw [show its.toArray.size = xs.length by simp; omega] at D
      exact D
    · obtain ⟨old, j, hq⟩ := hq
      intro hm
      rcases List.mem_cons.mp hm with z | z
      · subst z
        obtain ⟨o, e', c, _⟩ := id st
        have hq' : s.heap.get? e = _ := hq
        rw [e'] at hq'
        cases hq'
        injection c with q
        exact absurd q (by decide)
      · have z' := List.mem_singleton.mp z
        subst z'
        obtain ⟨o, e', c, _⟩ := pt
        have hq' : s.heap.get? e = _ := hq
        rw [e'] at hq'
        cases hq'
        injection c with q
        exact absurd q (by decide)
    · have hu' : its[j]? = some u := by simpa using hu
      have hj : j < its.length := (List.getElem?_eq_some_iff.mp hu').1
      have hx : xs[j]? = some (xs[j]'(by omega)) := List.getElem?_eq_getElem (by omega)
      obtain ⟨u', h1, h2⟩ := rv.get hx
      rw [hu'] at h1
      cases h1
      exact ⟨_, h2, hx⟩
theorem src_str {P : Program} {w : World} {K : PySem.W.Frag} {it : Addr} {z : Str} {t : Tok} :
    Src P w K it (fun _ => True) z.cps.size (fun i _ x => ∃ c, z.cps[i]? = some c ∧ x = .str ⟨#[c]⟩) (fun i h => h.IsStrIter it (strIterType z) z t i) where
  live := fun i h st => by
    obtain ⟨o, e, c, d⟩ := st
    exact ⟨o, e, fun v z => by rw [d] at z; cases z⟩
  keep := fun i h h' st k => by
    obtain ⟨o, e, r⟩ := st
    exact ⟨o, k o e, r⟩
  draw := by
    intro X hP hw hK pins σ H s i I hn hG st hh
    subst hP hw hK
    refine ⟨[it], _, _, Draws.text (prog := X.prog) (w := X.w) (A := X.A.in1) hh it z t, st, fun e he hq hm => ?_, fun j u hu => ?_, fun j h z => z⟩
    · obtain ⟨old, j, hq⟩ := hq
      have z' := List.mem_singleton.mp hm
      subst z'
      obtain ⟨o, e', c, _⟩ := id st
      have hq' : s.heap.get? e = _ := hq
      rw [e'] at hq'
      cases hq'
      have c' : strIterType z = "enumerate" := by injection c with q; exact q.symm
      unfold strIterType at c'
      split at c' <;> exact absurd c' (by decide)
    · obtain ⟨c, u', h1, h2⟩ := hu
      exact ⟨.str ⟨#[c]⟩, ⟨u', h2⟩, c, h1, rfl⟩
def iEnumT (K : PySem.W.Frag) (ta : TA) : TI := fun σ H R => ta σ H fun vs H1 => ∃ a xs, vs = [.ref a] ∧ SqT K H1 a xs ∧ R (ItE (fun H => SqT K H a xs) xs.length fun i _ x => xs[i]? = some x) H1
def iEnumS (ta : TA) : TI := fun σ H R => ta σ H fun vs H1 => ∃ z, vs = [.str z] ∧ R (ItE (fun _ => True) z.cps.size fun i _ x => ∃ c, z.cps[i]? = some c ∧ x = .str ⟨#[c]⟩) H1
section
variable {X : Cx} {e : Expr} {ta : TA} {p pos tpos : Pos} {elts : List Expr} {kk : Nat}
theorem pi_enumT (hg : Gl X "enumerate") (hm : X.mg "enumerate" = none) (ha : PA X [e] ta) (hs : starEach [e] X.env = [(false, eval e X.env)] := by rfl) :
    PI X (.Tuple elts kk tpos) (.Call (.Name "enumerate" p) [e] [] pos) (iEnumT X.K ta) := by
  refine ⟨fun pins s σ H R I h => Call_ (ld_blt I hg hm boot_enumerate (PyProof.Rows.callWith_type1 (thn (ha.run pos pins s σ H _ I h) fun us s1 hh => ?_) hs rfl))⟩
  obtain ⟨vs, H1, I1, r1, a, xs, rfl, hq, q⟩ := hh
  obtain ⟨u, rfl, rx⟩ := vals1 r1
  cases rx
  obtain ⟨its, rv, pt, hz⟩ := I1.tuple hq
  refine enum_call1 (begins_tuple a its.toArray) pt fun h' he hit hk => wpAny_pyIter_enum he ?_
  have I2 : Inv X pins σ H1 { s1 with heap := h' } := I1.kept (t' := s1.toks) hk
  refine ⟨s1.heap.objs.size + 1, [s1.heap.objs.size + 1, s1.heap.objs.size], _, _, H1, rfl, I2, turn_E src_tup, ⟨⟨.none, he⟩, ⟨_, hit, rfl, rfl⟩, Nat.succ_ne_self _⟩, fun b hb => ?_, q⟩
  have hle : s1.heap.objs.size ≤ b := by
    rcases List.mem_cons.mp hb with z | z
    · exact z ▸ Nat.le_add_right _ _
    · exact (List.mem_singleton.mp z) ▸ Nat.le_refl _
  exact I1.fpOk hle (I1.hok.fresh hle)
theorem pi_enumS (hg : Gl X "enumerate") (hm : X.mg "enumerate" = none) (ha : PA X [e] ta) (hs : starEach [e] X.env = [(false, eval e X.env)] := by rfl) :
    PI X (.Tuple elts kk tpos) (.Call (.Name "enumerate" p) [e] [] pos) (iEnumS ta) := by
  refine ⟨fun pins s σ H R I h => Call_ (ld_blt I hg hm boot_enumerate (PyProof.Rows.callWith_type1 (thn (ha.run pos pins s σ H _ I h) fun us s1 hh => ?_) hs rfl))⟩
  obtain ⟨vs, H1, I1, r1, z, rfl, q⟩ := hh
  obtain ⟨u, rfl, rx⟩ := vals1 r1
  obtain ⟨t, rfl⟩ := rx
  refine enum_call1 (begins_text z t) trivial fun h' he hit hk => wpAny_pyIter_enum he ?_
  have I2 : Inv X pins σ H1 { s1 with heap := h' } := I1.kept (t' := s1.toks) hk
  refine ⟨s1.heap.objs.size + 1, [s1.heap.objs.size + 1, s1.heap.objs.size], _, _, H1, rfl, I2, turn_E src_str, ⟨⟨.none, he⟩, ⟨_, hit, rfl, rfl⟩, Nat.succ_ne_self _⟩, fun b hb => ?_, q⟩
  have hle : s1.heap.objs.size ≤ b := by
    rcases List.mem_cons.mp hb with z | z
    · exact z ▸ Nat.le_add_right _ _
    · exact (List.mem_singleton.mp z) ▸ Nat.le_refl _
  exact I1.fpOk hle (I1.hok.fresh hle)
end
end Dk

/-! the layer: what grows, steps of readings -/
namespace Dk
open PySem PySem.Spec PyProof.Rows L2

/-! ### what is known grows -/
abbrev A0 : Addr → Prop := fun _ => False
abbrev Ex := Same
/-- G: what is known for good; H: the heap; A: what may change -/
structure Gr (A : Addr → Prop) (G H G' H' : Hp) : Prop where
  gg : Ex G G'
  gh : Ex G' H'
  hh : ∀ b o, ¬ A b → H b = some o → H' b = some o
  th : ∀ b o, H b = some o → ∃ o', H' b = some o'
  nw : ∀ b o, H b = some o → G b = none → G' b = none
section
variable {A : Addr → Prop} {G H G1 H1 G2 H2 : Hp} {p q m : Addr} {o o' u : HO}
theorem Gr.refl (g : Ex G H) : Gr A G H G H := ⟨Same.refl G, g, fun _ _ _ h => h, fun _ o h => ⟨o, h⟩, fun _ _ _ h => h⟩
theorem Gr.trans (a : Gr A G H G1 H1) (b : Gr A G1 H1 G2 H2) : Gr A G H G2 H2 :=
  ⟨a.gg.trans b.gg, b.gh, fun x o n h => b.hh x o n (a.hh x o n h), fun x o h => by
    obtain ⟨o1, h1⟩ := a.th x o h
    exact b.th x o1 h1, fun x o h n => by
    obtain ⟨o1, h1⟩ := a.th x o h
    exact b.nw x o1 h1 (a.nw x o h n)⟩
theorem Gr.wide {B : Addr → Prop} (a : Gr A G H G1 H1) (h : ∀ x, A x → B x) : Gr B G H G1 H1 :=
  ⟨a.gg, a.gh, fun x o n => a.hh x o fun z => n (h x z), a.th, a.nw⟩
theorem Gr.of0 (a : Gr A0 G H G1 H1) : Gr A G H G1 H1 := a.wide fun _ z => z.elim
theorem Gr.same (a : Gr A0 G H G1 H1) : Ex H H1 := fun b o h => a.hh b o (fun z => z) h
/-- a new object, known for good -/
theorem Gr.new (g : Ex G H) (hp : H p = none) : Gr A G H (upd G p o) (upd H p o) where
  gg := fun b x e => by
    rw [upd_ne (ne_of_none e (g.free hp))]
    exact e
  gh := fun b x e => by
    by_cases hb : b = p
    · subst hb
      rw [upd_same] at e ⊢
      exact e
    · rw [upd_ne hb] at e ⊢
      exact g b x e
  hh := fun b x _ e => by
    rw [upd_ne (ne_of_none e hp)]
    exact e
  th := fun b x e => ⟨x, by
    rw [upd_ne (ne_of_none e hp)]
    exact e⟩
  nw := fun b x e n => by
    rw [upd_ne (ne_of_none e hp)]
    exact n
/-- a new object of our own -/
theorem Gr.own (g : Ex G H) (hp : H p = none) : Gr A G H G (upd H p o) where
  gg := Same.refl G
  gh := fun b x e => by
    rw [upd_ne (ne_of_none e (g.free hp))]
    exact g b x e
  hh := fun b x _ e => by
    rw [upd_ne (ne_of_none e hp)]
    exact e
  th := fun b x e => ⟨x, by
    rw [upd_ne (ne_of_none e hp)]
    exact e⟩
  nw := fun b x e n => n
/-- an object of our own is written -/
theorem Gr.mut (t : Gr A G H G1 H1) (h0 : A p ∨ H p = none) (hp : G1 p = none) : Gr A G H G1 (upd H1 p o) where
  gg := t.gg
  gh := fun b x e => by
    rw [upd_ne (ne_of_none e hp)]
    exact t.gh b x e
  hh := fun b x n e => by
    have hb : b ≠ p := fun z => by
      subst z
      rcases h0 with h0 | h0
      · exact n h0
      · rw [h0] at e
        cases e
    rw [upd_ne hb]
    exact t.hh b x n e
  th := fun b x e => by
    by_cases hb : b = p
    · exact ⟨o, by rw [hb, upd_same]⟩
    · rw [upd_ne hb]
      exact t.th b x e
  nw := t.nw
/-- an object of our own is known for good from here on -/
theorem Gr.give (t : Gr A G H G1 H1) (h0 : H p = none) (hp : H1 p = some o) (hn : G1 p = none) : Gr A G H (upd G1 p o) H1 where
  gg := fun b x e => by
    have z := t.gg b x e
    rw [upd_ne (ne_of_none z hn)]
    exact z
  gh := fun b x e => by
    by_cases hb : b = p
    · subst hb
      rw [upd_same] at e
      cases e
      exact hp
    · rw [upd_ne hb] at e
      exact t.gh b x e
  hh := t.hh
  th := t.th
  nw := fun b x e n => by
    have hb : b ≠ p := ne_of_none e h0
    rw [upd_ne hb]
    exact t.nw b x e n
theorem Gr.g0 (t : Gr A G H G1 H1) : Ex G H1 := t.gg.trans t.gh
theorem ne_g (h : G p = some o) (n : G q = none) : p ≠ q := ne_of_none h n
end

/-! ### what is read at an address -/
theorem SqL.up {K : PySem.W.Frag} {G G' : Hp} {a : Addr} {xs : List V} (e : Ex G G') (h : SqL K G a xs) : SqL K G' a xs := e.seq h
theorem SqT.up {K : PySem.W.Frag} {G G' : Hp} {a : Addr} {xs : List V} (e : Ex G G') (h : SqT K G a xs) : SqT K G' a xs := by
  rcases h with (h | ⟨o, h⟩) | h
  · exact .inl (.inl (e _ _ h))
  · exact .inl (.inr ⟨o, e _ _ h⟩)
  · exact .inr h
theorem sqL {K : PySem.W.Frag} {H : Hp} {a : Addr} {xs : List V} (h : H a = some (.lst xs)) : SqL K H a xs := .inl (.inl h)
theorem sqT {K : PySem.W.Frag} {H : Hp} {a : Addr} {xs : List V} (h : H a = some (.tup xs)) : SqT K H a xs := .inl (.inl h)

/-! ### unions of rules -/
def rStr2 : R2 := fun x y H Q => ∃ i j, x = .str i ∧ y = .str j ∧ i.length + j.length ≤ sizeLine ∧ Q (.str (i ++ j)) H
def rAddU (K : PySem.W.Frag) : R2 := fun x y H Q => rI0 (fun i j => .int (i + j)) x y H Q ∨ (rStr2 x y H Q ∨ (rCat x y H Q ∨ rCatA K x y H Q))
def rInS1 : R2 := fun x y H Q => ∃ (c : Nat) (z : Str), x = .str ⟨#[c]⟩ ∧ y = .str z ∧ Q (.bl (decide (c ∈ z.cps.toList))) H
def rNotInS1 : R2 := fun x y H Q => ∃ (c : Nat) (z : Str), x = .str ⟨#[c]⟩ ∧ y = .str z ∧ Q (.bl (!decide (c ∈ z.cps.toList))) H
def rInU (K : PySem.W.Frag) : R2 := fun x y H Q => rInS1 x y H Q ∨ rIn K false x y H Q
def rNotInU (K : PySem.W.Frag) : R2 := fun x y H Q => rNotInS1 x y H Q ∨ rIn K true x y H Q
def rEqU (K : PySem.W.Frag) : R2 := fun x y H Q => rEq x y H Q ∨ rEqD K x y H Q
def rNeU (K : PySem.W.Frag) : R2 := fun x y H Q => rNe x y H Q ∨ rNeD K x y H Q
def rSlU (K : PySem.W.Frag) : V → Option Int → Option Int → Hp → VK → Prop := fun x lo hi H Q => rSlS x lo hi H Q ∨ (rSlL K x lo hi H Q ∨ rSlA K x lo hi H Q)
def rLenU (K : PySem.W.Frag) : List V → Hp → VK → Prop := fun xs H Q => ∃ x n, xs = [x] ∧ LenV K x H n ∧ Q (.int (n : Nat)) H
def rInt1 : List V → Hp → VK → Prop := fun xs H Q => (∃ i, xs = [.int i] ∧ Q (.int i) H) ∨ ∃ k, xs = [.bl k] ∧ Q (.int (if k then 1 else 0)) H
def rMax : List V → Hp → VK → Prop := fun xs H Q => ∃ i j, xs = [.int i, .int j] ∧ Q (.int (if j > i then j else i)) H
def rMin : List V → Hp → VK → Prop := fun xs H Q => ∃ i j, xs = [.int i, .int j] ∧ Q (.int (if j < i then j else i)) H
def rListU (K : PySem.W.Frag) : List V → Hp → VK → Prop := fun xs H Q => ∃ p ys, xs = [.ref p] ∧ (SqL K H p ys ∨ SqT K H p ys) ∧ ∀ l, H l = none → Q (.ref l) (upd H l (.lst ys))
def rTupU (K : PySem.W.Frag) : List V → Hp → VK → Prop := fun xs H Q => ∃ p ys, xs = [.ref p] ∧ ((SqL K H p ys ∧ ∀ l, H l = none → Q (.ref l) (upd H l (.tup ys))) ∨ (SqT K H p ys ∧ Q (.ref p) H))
def rJoin (K : PySem.W.Frag) : V → List V → Hp → VK → Prop := fun x xs H Q => ∃ a p, ∃ ys : List Str, x = .str a ∧ xs = [.ref p] ∧ (SqL K H p (ys.map V.str) ∨ SqT K H p (ys.map V.str)) ∧
  (ys.map (·.length)).sum + ys.length * a.length ≤ 16777216 ∧ Q (.str (Txt.join a ys)) H
def rIsN1 : R2 := fun x y H Q => y = .non ∧ Q (.bl (decide (x = .non))) H
def rNotN1 : R2 := fun x y H Q => y = .non ∧ Q (.bl (!decide (x = .non))) H
def rDivW : R2 := rI CDivW fun i j => .int (i / j)
def rModP : R2 := rI (fun _ j => 0 < j) fun i j => .int (i % j)
def rMulW : R2 := rI CMulW fun i j => .int (i * j)
section
variable {X : Cx}
theorem op_addU : OpR X (binaryOp .Add) (rAddU X.K) := op_add.or (op_add_str.or (op_cat.or op_catA))
theorem op_inU : OpR X (compareOp .In) (rInU X.K) := op_in_sign.or op_in_seq
theorem op_notInU : OpR X (compareOp .NotIn) (rNotInU X.K) := op_notIn_sign.or op_notIn_seq
theorem op_eqU (hu : X.A.units + 64 < cLine) : OpR X (compareOp .Eq) (rEqU X.K) := op_eq.or (op_eqD hu)
theorem op_neU (hu : X.A.units + 64 < cLine) : OpR X (compareOp .NotEq) (rNeU X.K) := op_ne.or (op_neD hu)
theorem sl_U : SlR X (rSlU X.K) := sl_str.or (sl_list.or sl_tupA)
theorem call_lenU : CallR X (.builtin "len") (rLenU X.K) := call_len
theorem call_intU : CallR X (.type "int") rInt1 := call_int1
theorem call_maxU (hc : X.calm = true) : CallR X (.builtin "max") rMax := call_max2 hc
theorem call_minU (hc : X.calm = true) : CallR X (.builtin "min") rMin := call_min2 hc
theorem call_listU : CallR X (.type "list") (rListU X.K) := call_list_of
theorem call_tupU : CallR X (.type "tuple") (rTupU X.K) := call_tuple_of
theorem op_isU : OpR X (compareOp .Is) rIsN1 := op_isN
theorem op_isnotU : OpR X (compareOp .IsNot) rNotN1 := op_notN
theorem op_divW : OpR X (binaryOp .FloorDiv) rDivW := op_fdivW
theorem op_modP : OpR X (binaryOp .Mod) rModP := op_mod
theorem op_mulWW : OpR X (binaryOp .Mult) rMulW := op_mulW
end

/-! within a comprehension -/
section
variable {X : Cx} {K : PySem.W.Frag}
theorem k_add (h : X.K = K) : OpR X (binaryOp .Add) (rAddU K) := h ▸ op_addU
theorem k_in (h : X.K = K) : OpR X (compareOp .In) (rInU K) := h ▸ op_inU
theorem k_notIn (h : X.K = K) : OpR X (compareOp .NotIn) (rNotInU K) := h ▸ op_notInU
theorem k_ix (h : X.K = K) : IxR X (rIx K) := h ▸ ix_seq
theorem k_sl (h : X.K = K) : SlR X (rSlU K) := h ▸ sl_U
theorem k_len (h : X.K = K) : CallR X (.builtin "len") (rLenU K) := h ▸ call_lenU
theorem k_list (h : X.K = K) : CallR X (.type "list") (rListU K) := h ▸ call_listU
theorem k_tup (h : X.K = K) : CallR X (.type "tuple") (rTupU K) := h ▸ call_tupU
theorem k_isi (h : X.K = K) : CallR X (.builtin "isinstance") (rIsi K) := h ▸ call_isi
end
/-! ### steps -/
section
variable {K : PySem.W.Frag} {σ : L2.St} {H H' : Hp} {Q : VK} {v x y : V} {ta tb te : TE} {i j : Int} {D : Ends} {t u : TS} {tt tu : TT} {QB : Bool → Hp → Prop} {ar : TA} {QL : List V → Hp → Prop}
theorem r_var {n : Nat} (h : σ[n]? = some (some v)) (q : Q v H) : tVar n σ H Q := ⟨v, h, q⟩
theorem r_c (q : Q v H) : tC v σ H Q := q
theorem r_op {r : R2} (h : ta σ H fun x H1 => tb σ H1 fun y H2 => r x y H2 Q) : tOp r ta tb σ H Q := h
theorem r_un {r : V → Hp → VK → Prop} (h : ta σ H fun x H1 => r x H1 Q) : tUn r ta σ H Q := h
theorem r_I0 {g : Int → Int → V} (q : Q (g i j) H) : rI0 g (.int i) (.int j) H Q := ⟨i, j, rfl, rfl, q⟩
theorem r_I {C : Int → Int → Prop} {g : Int → Int → V} (c : C i j) (q : Q (g i j) H) : rI C g (.int i) (.int j) H Q := ⟨i, j, rfl, rfl, c, q⟩
theorem r_mulW (c : CMulW i j) (q : Q (.int (i * j)) H) : rMulW (.int i) (.int j) H Q := ⟨i, j, rfl, rfl, c, q⟩
theorem r_divW (c : CDivW i j) (q : Q (.int (i / j)) H) : rDivW (.int i) (.int j) H Q := ⟨i, j, rfl, rfl, c, q⟩
theorem r_modP (c : 0 < j) (q : Q (.int (i % j)) H) : rModP (.int i) (.int j) H Q := ⟨i, j, rfl, rfl, c, q⟩
theorem r_U {g : Int → V} (q : Q (g i) H) : rU g (.int i) H Q := ⟨i, rfl, q⟩
theorem r_addI (q : Q (.int (i + j)) H) : rAddU K (.int i) (.int j) H Q := .inl ⟨i, j, rfl, rfl, q⟩
theorem r_addS {a b : Str} (h : a.length + b.length ≤ sizeLine) (q : Q (.str (a ++ b)) H) : rAddU K (.str a) (.str b) H Q := .inr (.inl ⟨a, b, rfl, rfl, h, q⟩)
theorem r_addL {p q : Addr} {xs ys : List V} (hp : H p = some (.lst xs)) (hq : H q = some (.lst ys)) (hz : xs.length + ys.length ≤ sizeLine) (k : ∀ l, H l = none → Q (.ref l) (upd H l (.lst (xs ++ ys)))) : rAddU K (.ref p) (.ref q) H Q :=
  .inr (.inr (.inl ⟨p, q, xs, ys, rfl, rfl, hp, hq, hz, k⟩))
theorem r_sub (q : Q (.int (i - j)) H) : rI0 (fun i j => .int (i - j)) (.int i) (.int j) H Q := ⟨i, j, rfl, rfl, q⟩
theorem r_inS {c : Nat} {z : Str} (q : Q (.bl (decide (c ∈ z.cps.toList))) H) : rInU K (.str ⟨#[c]⟩) (.str z) H Q := .inl ⟨c, z, rfl, rfl, q⟩
theorem r_niS {c : Nat} {z : Str} (q : Q (.bl (!decide (c ∈ z.cps.toList))) H) : rNotInU K (.str ⟨#[c]⟩) (.str z) H Q := .inl ⟨c, z, rfl, rfl, q⟩
theorem r_eq (h : scal x y = true) (q : Q (.bl (decide (x = y))) H) : rEqU K x y H Q := .inl ⟨h, q⟩
theorem r_ne (h : scal x y = true) (q : Q (.bl (!decide (x = y))) H) : rNeU K x y H Q := .inl ⟨h, q⟩
theorem r_isN (q : Q (.bl (decide (x = .non))) H) : rIsN1 x .non H Q := ⟨rfl, q⟩
theorem r_notN (q : Q (.bl (!decide (x = .non))) H) : rNotN1 x .non H Q := ⟨rfl, q⟩
theorem r_ixL {p : Addr} {xs : List V} (h : SqL K H p xs) (a : atI xs i = some v) (q : Q v H) : rIx K (.ref p) (.int i) H Q := .inl ⟨p, xs, i, v, rfl, rfl, h, a, q⟩
theorem r_ixT {p : Addr} {xs : List V} (h : SqT K H p xs) (a : atI xs i = some v) (q : Q v H) : rIx K (.ref p) (.int i) H Q := .inr (.inl ⟨p, xs, i, v, rfl, rfl, h, a, q⟩)
theorem r_ixS {z : Str} {c : Nat} (h : z.length ≤ sizeLine) (a : atI z.cps.toList i = some c) (q : Q (.str ⟨#[c]⟩) H) : rIx K (.str z) (.int i) H Q := .inr (.inr ⟨z, i, c, rfl, rfl, h, a, q⟩)
theorem r_slS {z : Str} {lo hi : Option Int} (h : z.length ≤ sizeLine) (q : Q (.str (cutS z lo hi)) H) : rSlU K (.str z) lo hi H Q := .inl ⟨z, rfl, h, q⟩
theorem r_slL {p : Addr} {xs : List V} {lo hi : Option Int} (h : SqL K H p xs) (q : ∀ l, H l = none → Q (.ref l) (upd H l (.lst (cutV xs lo hi)))) : rSlU K (.ref p) lo hi H Q := .inr (.inl ⟨p, xs, rfl, h, q⟩)
theorem r_lenS {z : Str} (h : z.length ≤ sizeLine) (q : Q (.int (z.length : Nat)) H) : rLenU K [.str z] H Q := ⟨_, _, rfl, ⟨h, rfl⟩, q⟩
theorem r_lenL {p : Addr} {xs : List V} (h : SqL K H p xs) (q : Q (.int (xs.length : Nat)) H) : rLenU K [.ref p] H Q := ⟨_, _, rfl, .inl ⟨xs, h, rfl⟩, q⟩
theorem r_lenT {p : Addr} {xs : List V} (h : SqT K H p xs) (q : Q (.int (xs.length : Nat)) H) : rLenU K [.ref p] H Q := ⟨_, _, rfl, .inr ⟨xs, h, rfl⟩, q⟩
theorem r_int (q : Q (.int i) H) : rInt1 [.int i] H Q := .inl ⟨i, rfl, q⟩
theorem r_max (q : Q (.int (max i j)) H) : rMax [.int i, .int j] H Q := ⟨i, j, rfl, by
  have e : (if j > i then j else i) = max i j := by omega
  rw [e]
  exact q⟩
theorem r_min (q : Q (.int (min i j)) H) : rMin [.int i, .int j] H Q := ⟨i, j, rfl, by
  have e : (if j < i then j else i) = min i j := by omega
  rw [e]
  exact q⟩
theorem r_listL {p : Addr} {xs : List V} (h : SqL K H p xs) (q : ∀ l, H l = none → Q (.ref l) (upd H l (.lst xs))) : rListU K [.ref p] H Q := ⟨p, xs, rfl, .inl h, q⟩
theorem r_listT {p : Addr} {xs : List V} (h : SqT K H p xs) (q : ∀ l, H l = none → Q (.ref l) (upd H l (.lst xs))) : rListU K [.ref p] H Q := ⟨p, xs, rfl, .inr h, q⟩
theorem r_tupL {p : Addr} {xs : List V} (h : SqL K H p xs) (q : ∀ l, H l = none → Q (.ref l) (upd H l (.tup xs))) : rTupU K [.ref p] H Q := ⟨p, xs, rfl, .inl ⟨h, q⟩⟩
theorem r_tupT {p : Addr} {xs : List V} (h : SqT K H p xs) (q : Q (.ref p) H) : rTupU K [.ref p] H Q := ⟨p, xs, rfl, .inr ⟨h, q⟩⟩
theorem r_isi {n a : String} {b : Bool} (ty : TyX K H x (.type a)) (e : kitB a n = some b) (q : Q (.bl b) H) : rIsi K [x, .ty n] H Q := ⟨x, .ty n, .type a, .type n, b, rfl, .ty n, ty, kit_ty e, q⟩
theorem r_nil (q : QL [] H) : tNil σ H QL := q
theorem r_cons (h : ta σ H fun x H1 => ar σ H1 fun xs H2 => QL (x :: xs) H2) : tCons ta ar σ H QL := h
theorem r_tup (h : ar σ H fun xs H1 => xs.length ≤ sizeLine ∧ ∀ p, H1 p = none → Q (.ref p) (upd H1 p (.tup xs))) : tTup ar σ H Q := h
theorem r_lst (h : ar σ H fun xs H1 => xs.length ≤ sizeLine ∧ ∀ p, H1 p = none → Q (.ref p) (upd H1 p (.lst xs))) : tLst ar σ H Q := h
theorem r_small {xs : List V} {P : Prop} (h : xs.length ≤ 1000) (k : P) : xs.length ≤ sizeLine ∧ P := ⟨Nat.le_of_lt (small1000 h), k⟩
theorem r_CB {r : List V → Hp → VK → Prop} (h : ar σ H fun vs H1 => r vs H1 Q) : tCB r ar σ H Q := h
theorem r_call {sp : Sp} {dvs : List V} {E : XK} (h : ar σ H fun vs H1 => sp (vs ++ dvs) H1 Q E) : tCall sp dvs E ar σ H Q := h
theorem r_callS {sp : Sp} {E : L2.St → XK} (h : ar σ H fun vs H1 => sp vs H1 Q (E σ)) : tCallS sp E ar σ H Q := h
theorem r_bl {b : Bool} (q : QB b H) : ∃ k, V.bl b = .bl k ∧ QB k H := ⟨b, rfl, q⟩
theorem r_test (h : te σ H fun x H1 => ∃ k, x = .bl k ∧ QB k H1) : tTest te σ H QB := h
theorem r_B (h : te σ H fun x H1 => ∃ k, x = .bl k ∧ QB k H1) : tB te σ H QB := h
theorem r_and (h : tt σ H fun c H1 => if c = true then tu σ H1 QB else QB false H1) : tAnd tt tu σ H QB := h
theorem r_andB {b1 b2 : Bool} (h1 : ∀ QB : Bool → Hp → Prop, QB b1 H → tt σ H QB) (h2 : b1 = true → ∀ QB : Bool → Hp → Prop, QB b2 H → tu σ H QB) (k : QB (b1 && b2) H) : tAnd tt tu σ H QB := by
  refine h1 _ ?_
  cases b1 with
  | true => exact h2 rfl _ k
  | false => exact k
theorem r_orB {b1 b2 : Bool} (h1 : ∀ QB : Bool → Hp → Prop, QB b1 H → tt σ H QB) (h2 : b1 = false → ∀ QB : Bool → Hp → Prop, QB b2 H → tu σ H QB) (k : QB (b1 || b2) H) : tOr tt tu σ H QB := by
  refine h1 _ ?_
  cases b1 with
  | true => exact k
  | false => exact h2 rfl _ k
theorem r_or (h : tt σ H fun c H1 => if c = true then QB true H1 else tu σ H1 QB) : tOr tt tu σ H QB := h
theorem r_not (h : tt σ H fun c H1 => QB (!c) H1) : tNot tt σ H QB := h
theorem r_andV (h : ta σ H fun x H1 => ∃ c, x = .bl c ∧ if c = true then tb σ H1 Q else Q (.bl false) H1) : tAndV ta tb σ H Q := h
theorem r_orV (h : ta σ H fun x H1 => ∃ c, x = .bl c ∧ if c = true then Q (.bl true) H1 else tb σ H1 Q) : tOrV ta tb σ H Q := h
theorem r_notV (h : ta σ H fun x H1 => ∃ c, x = .bl c ∧ Q (.bl (!c)) H1) : tNotV ta σ H Q := h
theorem r_ifE (h : tt σ H fun c H1 => if c = true then ta σ H1 Q else tb σ H1 Q) : tIf tt ta tb σ H Q := h
theorem r_blv {b : Bool} {P : Bool → Prop} (q : P b) : ∃ c, V.bl b = .bl c ∧ P c := ⟨b, rfl, q⟩
theorem r_sl {r : V → Option Int → Option Int → Hp → VK → Prop} {tl th : TO} (h : te σ H fun x H1 => tl σ H1 fun l H2 => th σ H2 fun u H3 => r x l u H3 Q) : tSl r te tl th σ H Q := h
theorem r_seq (h : t { D with nx := u D } σ H) : tSeq t u D σ H := h
theorem r_next (q : D.nx σ H) : tNext D σ H := q
theorem r_asg {g : TG} (h : te σ H fun x H1 => g x σ H1 D.nx) : tAsg te g D σ H := h
theorem r_gname {n : Nat} {N : L2.St → Hp → Prop} (q : N (σ.set n (some v)) H) : gName n v σ H N := q
theorem r_ret (h : te σ H D.rt) : tRet te D σ H := h
theorem r_retN (h : D.rt .non H) : tRetN D σ H := h
theorem r_drop (h : te σ H fun _ H1 => D.nx σ H1) : tDrop te D σ H := h
theorem r_ifS (h : tt σ H fun b H1 => if b = true then t D σ H1 else u D σ H1) : tIfS tt t u D σ H := h
theorem r_app {p : Addr} {xs : List V} (h : H p = some (.lst xs)) (z : xs.length < sizeLine) (q : Q .non (upd H p (.lst (xs ++ [v])))) : rAppend (.ref p) [v] H Q := ⟨p, xs, v, rfl, rfl, h, z, q⟩
theorem r_bm {T : String} {r : V → List V → Hp → VK → Prop} (h : te σ H fun x H1 => tyV K T x H1 ∧ ar σ H1 fun xs H2 => r x xs H2 Q) : tBM K T r te ar σ H Q := h
theorem r_tyL {p : Addr} {xs : List V} {P : Prop} (h : SqL K H p xs) (k : P) : tyV K "list" (.ref p) H ∧ P := ⟨.inl ⟨rfl, xs, h⟩, k⟩
theorem r_setL {p : Addr} {xs : List V} {n : Nat} {N : Hp → Prop} (h : H p = some (.lst xs)) (a : ixN xs.length i = some n) (q : N (upd H p (.lst (xs.set n v)))) : rSetL (.ref p) (.int i) v H N := ⟨p, xs, i, n, rfl, rfl, h, a, q⟩
theorem r_gsub {ti : TE} {to : TE} {ts : TSet} {N : L2.St → Hp → Prop} (h : to σ H fun o H1 => ti σ H1 fun i H2 => ts o i v H2 fun H3 => N σ H3) : gSub to ti ts v σ H N := h
theorem r_ite {c A B : Prop} [Decidable c] (h1 : c → A) (h2 : ¬ c → B) : if decide c = true then A else B := by
  by_cases h : c
  · rw [if_pos (decide_eq_true h)]
    exact h1 h
  · rw [if_neg (by rw [decide_eq_false h]; decide)]
    exact h2 h
theorem r_iteN {c A B : Prop} [Decidable c] (h1 : ¬ c → A) (h2 : c → B) : if (!decide c) = true then A else B := by
  by_cases h : c
  · rw [if_neg (by rw [decide_eq_true h]; decide)]
    exact h2 h
  · rw [if_pos (by rw [decide_eq_false h]; rfl)]
    exact h1 h
theorem r_iteB {b : Bool} {A B : Prop} (h1 : b = true → A) (h2 : b = false → B) : if b = true then A else B := by
  cases b with
  | true => exact h1 rfl
  | false => exact h2 rfl
theorem r_itt {A B : Prop} (h : A) : if true = true then A else B := by
  rw [if_pos rfl]
  exact h
theorem r_iff {A B : Prop} (h : B) : if false = true then A else B := by
  rw [if_neg Bool.false_ne_true]
  exact h
theorem r_ittD {b : Bool} {A B : Prop} (e : b = true) (h : A) : if b = true then A else B := by
  rw [if_pos e]
  exact h
theorem r_iffD {b : Bool} {A B : Prop} (e : b = false) (h : B) : if b = true then A else B := by
  rw [e]
  exact r_iff h
theorem r_ittN {A B : Prop} (h : A) : if (!false) = true then A else B := r_itt h
theorem r_iffN {A B : Prop} (h : B) : if (!true) = true then A else B := r_iff h
end

/-! ### growth, further -/
section
variable {A : Addr → Prop} {G H G1 H1 G2 H2 : Hp} {p q m : Addr} {o o' u : HO} {K : PySem.W.Frag} {xs : List V} {Q : VK}
theorem Gr.ex (g : Ex G H) (e : Ex H H1) : Gr A G H G H1 := ⟨Same.refl G, g.trans e, fun b o _ h => e b o h, fun b o h => ⟨o, e b o h⟩, fun _ _ _ n => n⟩
/-- a step of one that leaves everything as it was -/
theorem Gr.then (t : Gr A G H G1 H1) (e : Ex H1 H2) : Gr A G H G1 H2 := t.trans (.ex t.gh e)
theorem Gr.none_of (t : Gr A G H G1 H1) (h : H p = some o) (n : G p = none) : G1 p = none := t.nw p o h n
/-- a new tuple, known for good -/
theorem a_tup (g : Ex G H) (hl : xs.length ≤ 1000) (k : ∀ p G' H', Gr A0 G H G' H' → G' p = some (.tup xs) → H p = none → Q (.ref p) H') :
    xs.length ≤ sizeLine ∧ ∀ p, H p = none → Q (.ref p) (upd H p (.tup xs)) :=
  ⟨Nat.le_of_lt (small1000 hl), fun p hp => k p _ _ (Gr.new g hp) upd_same hp⟩
theorem a_lst (g : Ex G H) (hl : xs.length ≤ 1000) (k : ∀ p G' H', Gr A0 G H G' H' → G' p = some (.lst xs) → H p = none → Q (.ref p) H') :
    xs.length ≤ sizeLine ∧ ∀ p, H p = none → Q (.ref p) (upd H p (.lst xs)) :=
  ⟨Nat.le_of_lt (small1000 hl), fun p hp => k p _ _ (Gr.new g hp) upd_same hp⟩
/-- a new list of our own -/
theorem a_own (g : Ex G H) (hl : xs.length ≤ 1000) (k : ∀ p H', Gr A0 G H G H' → H' p = some (.lst xs) → H p = none → G p = none → Q (.ref p) H') :
    xs.length ≤ sizeLine ∧ ∀ p, H p = none → Q (.ref p) (upd H p (.lst xs)) :=
  ⟨Nat.le_of_lt (small1000 hl), fun p hp => k p _ (Gr.own g hp) upd_same hp (g.free hp)⟩
theorem n_tup (g : Ex G H) (k : ∀ p G' H', Gr A0 G H G' H' → G' p = some (.tup xs) → H p = none → Q (.ref p) H') :
    ∀ p, H p = none → Q (.ref p) (upd H p (.tup xs)) := fun p hp => k p _ _ (Gr.new g hp) upd_same hp
theorem n_lst (g : Ex G H) (k : ∀ p G' H', Gr A0 G H G' H' → G' p = some (.lst xs) → H p = none → Q (.ref p) H') :
    ∀ p, H p = none → Q (.ref p) (upd H p (.lst xs)) := fun p hp => k p _ _ (Gr.new g hp) upd_same hp
theorem n_own (g : Ex G H) (k : ∀ p H', Gr A0 G H G H' → H' p = some (.lst xs) → H p = none → G p = none → Q (.ref p) H') :
    ∀ p, H p = none → Q (.ref p) (upd H p (.lst xs)) := fun p hp => k p _ (Gr.own g hp) upd_same hp (g.free hp)
end
/-! ### raising a class of one field -/
section
variable {K : PySem.W.Frag} {σ : L2.St} {H : Hp} {C : Addr} {f : Str} {v : V} {W : XK}
/-- the promise of its __init__ -/
def spInit1 (C : Addr) (f : Str) : Sp := fun vs H Q _ => ∃ (a : Addr) (v : V), vs = [.ref a, v] ∧ H a = some (exo a C none) ∧
  ∀ dx, H dx = none → dx ≠ a → Q .non (upd (upd H dx (exd dx [(f, v)])) a (exo a C (some dx)))
theorem r_raise1 (q : ∀ d, H d = none → W (.ref C) (some d) (upd H d (.xd [(f, v)]))) :
    ([v] : List V).length ≤ 1000 ∧ ∀ a, H a = none → spInit1 C f (.ref a :: ([v] ++ [])) (upd H a (exo a C none))
      (fun v H2 => v = .non ∧ ∃ (d : Addr) (fs : List (Str × V)), H2 a = some (exo a C (some d)) ∧ H2 d = some (exd d fs) ∧ H d = none ∧ W (.ref C) (some d) (upd (del H2 a) d (.xd fs))) (fun _ _ _ => False) := by
  refine ⟨by show 1 ≤ 1000; decide, fun a ha => ⟨a, v, rfl, upd_same, fun dx hdx hne => ⟨rfl, dx, [(f, v)], upd_same, ?_, ?_, ?_⟩⟩⟩
  · rw [upd_ne hne]
    exact upd_same
  · rw [upd_ne hne] at hdx
    exact hdx
  · rw [upd_ne hne] at hdx
    have e : upd (del (upd (upd (upd H a (exo a C none)) dx (exd dx [(f, v)])) a (exo a C (some dx))) a) dx (.xd [(f, v)]) = upd H dx (.xd [(f, v)]) := by
      funext b
      by_cases h1 : b = dx
      · rw [h1, upd_same, upd_same]
      · rw [upd_ne h1, upd_ne h1]
        by_cases h2 : b = a
        · rw [h2, del_same, ha]
        · rw [del_ne h2, upd_ne h2, upd_ne h1, upd_ne h2]
    rw [e]
    exact q dx hdx
end
theorem Same.mut {H H' : Hp} {p : Addr} {o : HO} (e : Ex H H') (h : H p = none) : Ex H (upd H' p o) := fun a u ha => by
  rw [upd_ne (ne_of_none ha h)]
  exact e a u ha
theorem Same.new {H H' : Hp} {p : Addr} {o : HO} (e : Ex H H') (h : H' p = none) : Ex H (upd H' p o) := fun a u ha => by
  rw [upd_ne (ne_of_none (e a u ha) h)]
  exact e a u ha
/-! ### texts by their codes -/
abbrev cs (z : Str) : List Nat := z.cps.toList
theorem cs_ext {a b : Str} (h : cs a = cs b) : a = b := by
  cases a
  cases b
  exact congrArg Str.mk (Array.toList_inj.mp h)
theorem cs_len (z : Str) : (cs z).length = z.length := Array.length_toList
theorem cs_app (a b : Str) : cs (a ++ b) = cs a ++ cs b := Array.toList_append
theorem cs_join : ∀ ys : List Str, cs (Txt.join "" ys) = (ys.map cs).flatten := fun ys => by
  rw [TL.join_eq]
  induction ys with
  | nil => rfl
  | cons y r ih =>
    cases r with
    | nil => simp [PySem.Str.join, cs]
    | cons x r' =>
      have e : PySem.Str.join "" (y :: x :: r') = y ++ "" ++ PySem.Str.join "" (x :: r') := rfl
      rw [e, cs_app, cs_app, ih]
      have e0 : cs ("" : Str) = [] := by decide
      rw [e0, List.append_nil]
      rfl
theorem cut_list (l : List Nat) (a b : Nat) : (l.drop (min a l.length)).take (min b l.length - min a l.length) = (l.drop a).take (b - a) := by
  by_cases h : a ≤ l.length
  · rw [Nat.min_eq_left h]
    by_cases hb : b ≤ l.length
    · rw [Nat.min_eq_left hb]
    · have hb' : l.length ≤ b := by omega
      rw [Nat.min_eq_right hb', List.take_of_length_le (by rw [List.length_drop]; omega), List.take_of_length_le (by rw [List.length_drop]; omega)]
  · have ha' : l.length ≤ a := by omega
    rw [Nat.min_eq_right ha', List.drop_of_length_le (Nat.le_refl _), List.drop_of_length_le ha', List.take_nil, List.take_nil]
theorem cs_cut (z : Str) (a b : Nat) : cs (cutS z (some (a : Int)) (some (b : Int))) = ((cs z).drop a).take (b - a) := by
  show ((z.cps.toList.drop (HT.sIx z.length 0 (some (a : Int)))).take (HT.sIx z.length z.length (some (b : Int)) - HT.sIx z.length 0 (some (a : Int)))) = _
  rw [HT.sIx_nat, HT.sIx_nat, ← cs_len z]
  exact cut_list _ a b
theorem cs_from (z : Str) (a : Nat) : cs (cutS z (some (a : Int)) none) = (cs z).drop a := by
  show ((z.cps.toList.drop (HT.sIx z.length 0 (some (a : Int)))).take (HT.sIx z.length z.length none - HT.sIx z.length 0 (some (a : Int)))) = _
  rw [HT.sIx_nat, HT.sIx_none, ← cs_len z]
  have h := cut_list (cs z) a (cs z).length
  rw [Nat.min_self] at h
  rw [h, List.take_of_length_le (by rw [List.length_drop]; omega)]
theorem cs_to (z : Str) (b : Nat) : cs (cutS z none (some (b : Int))) = (cs z).take b := by
  show ((z.cps.toList.drop (HT.sIx z.length 0 none)).take (HT.sIx z.length z.length (some (b : Int)) - HT.sIx z.length 0 none)) = _
  rw [HT.sIx_nat, HT.sIx_none, ← cs_len z]
  have h := cut_list (cs z) 0 b
  rw [Nat.zero_min] at h
  exact h
theorem cut_len (z : Str) (lo hi : Option Int) : (cutS z lo hi).length ≤ z.length := cutS_length z lo hi
theorem int_nat {i : Int} (h : 0 ≤ i) : i = ((i.toNat : Nat) : Int) := by omega
theorem at_g {α : Type} {xs : List α} {z : Int} {j : Nat} {v : α} (e : z = (j : Int)) (h : xs[j]? = some v) : atI xs z = some v := by
  rw [e]
  exact atI_nat h
theorem sum_ones {α : Type} : ∀ l : List α, (l.map fun _ => 1).sum = l.length
  | [] => rfl
  | _ :: r => by rw [List.map_cons, List.sum_cons, sum_ones r, List.length_cons, Nat.add_comm]
theorem nsz {xs : List V} (h : Nat.ble xs.length 1000 = true := by rfl) : xs.length ≤ 1000 := Nat.le_of_ble_eq_true h
/-! ### loops -/
section
variable {K : PySem.W.Frag} {σ : L2.St} {H : Hp} {tl : TE} {ta : TA} {g : TG} {tb : TS} {D : Ends}
theorem r_forT (h : tl σ H fun x H1 => ∃ (a : Addr) (xs : List V), x = .ref a ∧ SqT K H1 a xs ∧ ∃ Pv : Nat → L2.St → Hp → Prop, Pv 0 σ H1 ∧ (∀ i σ H, Pv i σ H → SqT K H a xs) ∧
    (∀ i x σ H, xs[i]? = some x → Pv i σ H → g x σ H fun σ2 H2 => tb { D with nx := Pv (i + 1), ct := Pv (i + 1), bk := D.nx } σ2 H2) ∧ ∀ σ H, Pv xs.length σ H → D.nx σ H)
    (mono : ∀ Q Q' : VK, (∀ v H, Q v H → Q' v H) → tl σ H Q → tl σ H Q') : tFor (iTup K tl) g tb D σ H := by
  refine mono _ _ (fun v H1 hh => ?_) h
  obtain ⟨a, xs, rfl, hs, Pv, p0, hl, ht, hd⟩ := hh
  exact ⟨a, rfl, ⟨xs, hs⟩, for_it walk_tup Pv p0 (fun i σ H _ p => hl i σ H p) (fun i x σ H H' hi p y => by
    obtain ⟨rfl, hx⟩ := y
    exact ht i x σ _ hx p) hd⟩
theorem r_forL (h : tl σ H fun x H1 => ∃ (a : Addr) (xs : List V), x = .ref a ∧ SqL K H1 a xs ∧ ∃ Pv : Nat → L2.St → Hp → Prop, Pv 0 σ H1 ∧ (∀ i σ H, Pv i σ H → SqL K H a xs) ∧
    (∀ i x σ H, xs[i]? = some x → Pv i σ H → g x σ H fun σ2 H2 => tb { D with nx := Pv (i + 1), ct := Pv (i + 1), bk := D.nx } σ2 H2) ∧ ∀ σ H, Pv xs.length σ H → D.nx σ H)
    (mono : ∀ Q Q' : VK, (∀ v H, Q v H → Q' v H) → tl σ H Q → tl σ H Q') : tFor (iList K tl) g tb D σ H := by
  refine mono _ _ (fun v H1 hh => ?_) h
  obtain ⟨a, xs, rfl, hs, Pv, p0, hl, ht, hd⟩ := hh
  exact ⟨a, rfl, ⟨xs, hs⟩, for_it walk_list Pv p0 (fun i σ H _ p => hl i σ H p) (fun i x σ H H' hi p y => by
    obtain ⟨rfl, hx⟩ := y
    exact ht i x σ _ hx p) hd⟩
theorem m_var {n : Nat} : ∀ Q Q' : VK, (∀ v H, Q v H → Q' v H) → tVar n σ H Q → tVar n σ H Q' := fun Q Q' h t => by
  obtain ⟨v, e, q⟩ := t
  exact ⟨v, e, h v _ q⟩
/-- over a name's list, tuple, text -/
theorem r_forTv {n : Nat} {a : Addr} {xs : List V} (e : σ[n]? = some (some (.ref a))) (hs : SqT K H a xs) (Pv : Nat → L2.St → Hp → Prop) (p0 : Pv 0 σ H) (hl : ∀ i σ H, Pv i σ H → SqT K H a xs)
    (ht : ∀ i x σ H, xs[i]? = some x → Pv i σ H → g x σ H fun σ2 H2 => tb { D with nx := Pv (i + 1), ct := Pv (i + 1), bk := D.nx } σ2 H2) (hd : ∀ σ H, Pv xs.length σ H → D.nx σ H) : tFor (iTup K (tVar n)) g tb D σ H :=
  r_forT ⟨_, e, a, xs, rfl, hs, Pv, p0, hl, ht, hd⟩ m_var
theorem r_forLv {n : Nat} {a : Addr} {xs : List V} (e : σ[n]? = some (some (.ref a))) (hs : SqL K H a xs) (Pv : Nat → L2.St → Hp → Prop) (p0 : Pv 0 σ H) (hl : ∀ i σ H, Pv i σ H → SqL K H a xs)
    (ht : ∀ i x σ H, xs[i]? = some x → Pv i σ H → g x σ H fun σ2 H2 => tb { D with nx := Pv (i + 1), ct := Pv (i + 1), bk := D.nx } σ2 H2) (hd : ∀ σ H, Pv xs.length σ H → D.nx σ H) : tFor (iList K (tVar n)) g tb D σ H :=
  r_forL ⟨_, e, a, xs, rfl, hs, Pv, p0, hl, ht, hd⟩ m_var
theorem r_forSv {n : Nat} {z : Str} (e : σ[n]? = some (some (.str z))) (Pv : Nat → L2.St → Hp → Prop) (p0 : Pv 0 σ H)
    (ht : ∀ i c σ H, (cs z)[i]? = some c → Pv i σ H → g (.str ⟨#[c]⟩) σ H fun σ2 H2 => tb { D with nx := Pv (i + 1), ct := Pv (i + 1), bk := D.nx } σ2 H2) (hd : ∀ σ H, Pv z.length σ H → D.nx σ H) : tFor (iStr (tVar n)) g tb D σ H := by
  refine ⟨_, e, z, rfl, for_it walk_str Pv p0 (fun _ _ _ _ _ => trivial) (fun i x σ H H' hi p y => ?_) hd⟩
  obtain ⟨rfl, c, hc, rfl⟩ := y
  exact ht i c σ _ (by rw [Array.getElem?_toList]; exact hc) p
theorem walk_E {G : Hp → Prop} {n : Nat} {Y : Nat → Hp → V → Prop} : Walk (ItE G n Y) n G (fun i H v H' => ∃ T x, v = .ref T ∧ H T = none ∧ H' = upd H T (.tup [.int (i : Nat), x]) ∧ Y i H x) :=
  ⟨fun i H hi g => ⟨g, hi⟩, fun H g => ⟨g, rfl⟩, fun i H x H' hi g y => y⟩
theorem r_forETv {n : Nat} {a : Addr} {xs : List V} (e : σ[n]? = some (some (.ref a))) (hs : SqT K H a xs) (Pv : Nat → L2.St → Hp → Prop) (p0 : Pv 0 σ H) (hl : ∀ i σ H, Pv i σ H → SqT K H a xs)
    (ht : ∀ i x σ H p, xs[i]? = some x → Pv i σ H → H p = none → g (.ref p) σ (upd H p (.tup [.int (i : Nat), x])) fun σ2 H2 => tb { D with nx := Pv (i + 1), ct := Pv (i + 1), bk := D.nx } σ2 H2)
    (hd : ∀ σ H, Pv xs.length σ H → D.nx σ H) : tFor (Dk.iEnumT K (tCons (tVar n) tNil)) g tb D σ H := by
  refine ⟨_, e, a, xs, rfl, hs, for_it walk_E Pv p0 (fun i σ H _ p => hl i σ H p) (fun i x σ H H' hi p y => ?_) hd⟩
  obtain ⟨T, x', rfl, hT, rfl, hx⟩ := y
  exact ht i x' σ H T hx p hT
theorem r_forESv {n : Nat} {z : Str} (e : σ[n]? = some (some (.str z))) (Pv : Nat → L2.St → Hp → Prop) (p0 : Pv 0 σ H)
    (ht : ∀ i c σ H p, (cs z)[i]? = some c → Pv i σ H → H p = none → g (.ref p) σ (upd H p (.tup [.int (i : Nat), .str ⟨#[c]⟩])) fun σ2 H2 => tb { D with nx := Pv (i + 1), ct := Pv (i + 1), bk := D.nx } σ2 H2)
    (hd : ∀ σ H, Pv z.length σ H → D.nx σ H) : tFor (Dk.iEnumS (tCons (tVar n) tNil)) g tb D σ H := by
  refine ⟨_, e, z, rfl, for_it walk_E Pv p0 (fun _ _ _ _ _ => trivial) (fun i x σ H H' hi p y => ?_) hd⟩
  obtain ⟨T, x', rfl, hT, rfl, c, hc, rfl⟩ := y
  exact ht i c σ H T (by rw [Array.getElem?_toList]; exact hc) p hT
/-- over range(n) -/
theorem r_forR1 (h : ta σ H fun vs H1 => ∃ n : Int, vs = [.int n] ∧ -1000000 ≤ n ∧ n ≤ 1000000 ∧ ∃ Pv : Nat → L2.St → Hp → Prop, Pv 0 σ H1 ∧
    (∀ (i : Nat) σ H, (i : Int) < n → Pv i σ H → g (.int (i : Nat)) σ H fun σ2 H2 => tb { D with nx := Pv (i + 1), ct := Pv (i + 1), bk := D.nx } σ2 H2) ∧ ∀ σ H, Pv n.toNat σ H → D.nx σ H)
    (mono : ∀ Q Q' : List V → Hp → Prop, (∀ v H, Q v H → Q' v H) → ta σ H Q → ta σ H Q') : tFor (iRng1 ta) g tb D σ H := by
  refine mono _ _ (fun v H1 hh => ?_) h
  obtain ⟨n, rfl, h1, h2, Pv, p0, ht, hd⟩ := hh
  refine ⟨n, rfl, by omega, by omega, for_range Pv p0 (fun i σ H hi p => ?_) hd⟩
  have z := ht i σ H (by omega) p
  rw [Int.zero_add]
  exact z
end
section
variable {K : PySem.W.Frag} {σ : L2.St} {H : Hp} {N : L2.St → Hp → Prop} {v : V} {vs : List V} {t : TG} {u : TGs}
theorem r_gtup {n : Nat} {a : Addr} (h : SqT K H a vs) (hl : vs.length = n) (k : u vs σ H N) : gTup K n u (.ref a) σ H N := ⟨a, vs, rfl, h, hl, k⟩
theorem r_gcons (k : t v σ H fun σ' H' => u vs σ' H' N) : gCons t u (v :: vs) σ H N := ⟨v, vs, rfl, k⟩
theorem r_gnil (k : N σ H) : gNil [] σ H N := ⟨rfl, k⟩
theorem r_mkO {C : Addr} {sp : Sp} {dvs : List V} {ta : TA} {Q : XK} (h : ta σ H fun vs H1 => vs.length ≤ 1000 ∧ ∀ a, H1 a = none → sp (.ref a :: (vs ++ dvs)) (upd H1 a (exo a C none))
  (fun v H2 => v = .non ∧ ∃ (d : Addr) (fs : List (Str × V)), H2 a = some (exo a C (some d)) ∧ H2 d = some (exd d fs) ∧ H1 d = none ∧ Q (.ref C) (some d) (upd (del H2 a) d (.xd fs))) (fun _ _ _ => False)) : tMkO C sp dvs ta σ H Q := h
theorem r_xfo {a C : Addr} {cls : Value} {d : Option Addr} {f : Str} {te : TE} {Q : VK} (h : te σ H fun x H1 => x = .ref a ∧ cls = .ref C ∧ ∃ (dd : Addr) (fs : List (Str × V)) (v : V), d = some dd ∧ H1 dd = some (.xd fs) ∧ fs.lookup f = some v ∧ Q v H1) : tXf a cls d C f te σ H Q := h
theorem r_noP {QO : Option Int → Hp → Prop} (q : QO none H) : tNoPart σ H QO := q
theorem r_part {te : TE} {QO : Option Int → Hp → Prop} (h : te σ H fun x H1 => ∃ i, x = .int i ∧ QO (some i) H1) : tPart te σ H QO := h
theorem r_pI {i : Int} {PO : Int → Prop} (q : PO i) : ∃ j, V.int i = .int j ∧ PO j := ⟨i, rfl, q⟩
end
/-! ### draws -/
def M61 : Int := 2305843009213693951
/-- the state of the draws stands at a -/
def Stt (H : Hp) (a : Addr) : Prop := ∃ z : Int, H a = some (.lst [.int z]) ∧ 0 ≤ z ∧ z < M61
theorem nat61 {z : Int} (h0 : 0 ≤ z) (h : z < M61) : z.natAbs < 2 ^ 61 := by
  unfold M61 at h
  have e : (2 : Nat) ^ 61 = 2305843009213693952 := by decide
  omega
/-- draws were made: the state at a turned, all else is as it was -/
structure Dr (a : Addr) (H H' : Hp) : Prop where
  hh : ∀ b o, b ≠ a → H b = some o → H' b = some o
  st : Stt H' a
section
variable {A : Addr → Prop} {a p : Addr} {G H G1 H1 H2 : Hp} {o : HO}
theorem Stt.up (s : Stt H a) (e : Ex H H1) : Stt H1 a := s.imp fun _ z => ⟨e _ _ z.1, z.2⟩
theorem Stt.ne (s : Stt H a) (h : H p = none) : p ≠ a := fun z => by
  obtain ⟨v, e, _⟩ := s
  rw [← z, h] at e
  cases e
theorem Stt.put (s : Stt H a) (h : p ≠ a) : Stt (upd H p o) a := s.imp fun _ z => ⟨by rw [upd_ne (Ne.symm h)]; exact z.1, z.2⟩
theorem Dr.refl (s : Stt H a) : Dr a H H := ⟨fun _ _ _ h => h, s⟩
theorem Dr.trans (x : Dr a H H1) (y : Dr a H1 H2) : Dr a H H2 := ⟨fun b o n h => y.hh b o n (x.hh b o n h), y.st⟩
theorem Dr.ex (s : Stt H a) (e : Ex H H1) : Dr a H H1 := ⟨fun b o _ h => e b o h, s.up e⟩
theorem Dr.then (x : Dr a H H1) (e : Ex H1 H2) : Dr a H H2 := x.trans (.ex x.st e)
theorem Dr.set {z : Int} (h0 : 0 ≤ z) (h : z < M61) : Dr a H (upd H a (.lst [.int z])) := ⟨fun b o n e => by rw [upd_ne n]; exact e, z, upd_same, h0, h⟩
theorem Dr.mut (x : Dr a H H1) (hp : H p = none) (ne : p ≠ a) : Dr a H (upd H1 p o) :=
  ⟨fun b u n e => by rw [upd_ne (ne_of_none e hp)]; exact x.hh b u n e, x.st.put ne⟩
theorem Dr.new (x : Dr a H H1) (hp : H1 p = none) : Dr a H (upd H1 p o) := x.then (Same.new (Same.refl H1) hp)
theorem Dr.gr (g : Ex G H) (n : G a = none) (s : Stt H a) (d : Dr a H H1) : Gr (· = a) G H G H1 where
  gg := Same.refl G
  gh := fun b x e => d.hh b x (ne_of_none e n) (g b x e)
  hh := fun b x z e => d.hh b x z e
  th := fun b x e => by
    by_cases h : b = a
    · obtain ⟨v, z, _⟩ := d.st
      exact ⟨_, by rw [h]; exact z⟩
    · exact ⟨x, d.hh b x h e⟩
  nw := fun b x e z => z
theorem Gr.na (t : Gr A G H G1 H1) (n : G a = none) (s : Stt H a) : G1 a = none := by
  obtain ⟨z, e, _⟩ := s
  exact t.nw a _ e n
theorem Gr.dr (t : Gr (· = a) G H G1 H1) (n : G a = none) (s : Stt H a) (s1 : Stt H1 a) (d : Dr a H1 H2) : Gr (· = a) G H G1 H2 :=
  t.trans (Dr.gr t.gh (t.na n s) s1 d)
end
/-! ### the laws' own draws -/
def AL : Str := "\n !\"#$&'()*+,-./0123456789:;<=>?@ABCDEFGHIJKLMNOPQRSTUVWXYZ[\\]^_`abcdefghijklmnopqrstuvwxyz{|}~"
def InAL (z : Str) : Prop := ∀ c ∈ cs z, c ∈ cs AL
theorem AL_len : AL.length = 95 := by decide +kernel
def spDraw : Sp := fun vs H Q _ => ∃ (a : Addr) (n : Int), vs = [.ref a, .int n] ∧ Stt H a ∧ 0 < n ∧ ∀ (d : Int) H', 0 ≤ d → d < n → Dr a H H' → Q (.int d) H'
def spStart (K : PySem.W.Frag) : Sp := fun vs H Q _ => ∃ (s : Addr) (ns : List Int), vs = [.ref s] ∧ SqL K H s (ns.map V.int) ∧ ∀ p H', Ex H H' → H p = none → Stt H' p → Q (.ref p) H'
def spSigns : Sp := fun vs H Q _ => vs = [] ∧ Q (.str AL) H
def spText : Sp := fun vs H Q _ => ∃ (a : Addr) (n : Int), vs = [.ref a, .int n] ∧ Stt H a ∧ 0 ≤ n ∧ n ≤ 8000 ∧ ∀ o H', Dr a H H' → (o.length : Int) = n → InAL o → Q (.str o) H'
theorem mix_next {z : Int} (e : Int) : 0 ≤ e % M61 ∧ e % M61 < M61 := ⟨Int.emod_nonneg _ (by decide), Int.emod_lt_of_pos _ (by decide)⟩
/-! ### what is known at a place of a drawing def -/
structure Wd (a : Addr) (G H : Hp) : Prop where
  g : Ex G H
  na : G a = none
  st : Stt H a
section
variable {a p : Addr} {G H G1 H1 G2 H2 : Hp} {o : HO} {xs : List V} {Q : VK}
theorem Wd.step (x : Wd a G H) (t : Gr (· = a) G H G1 H1) (s : Stt H1 a) : Wd a G1 H1 := ⟨t.gh, t.na x.na x.st, s⟩
theorem Wd.pure (x : Wd a G H) (t : Gr A0 G H G1 H1) : Wd a G1 H1 := ⟨t.gh, t.na x.na x.st, x.st.up t.same⟩
theorem Wd.ex (x : Wd a G H) (e : Ex H H1) : Wd a G H1 := ⟨x.g.trans e, x.na, x.st.up e⟩
theorem Wd.dr (x : Wd a G H) (d : Dr a H H1) : Wd a G H1 := ⟨(Dr.gr x.g x.na x.st d).gh, x.na, d.st⟩
theorem Wd.gdr (x : Wd a G H) (d : Dr a H H1) : Gr (· = a) G H G H1 := Dr.gr x.g x.na x.st d
/-- a new list, known for good -/
theorem w_lst (x : Wd a G H) (k : ∀ p G' H', Gr A0 G H G' H' → Wd a G' H' → G' p = some (.lst xs) → Q (.ref p) H') :
    ∀ p, H p = none → Q (.ref p) (upd H p (.lst xs)) := fun p hp => k p _ _ (Gr.new x.g hp) (x.pure (Gr.new x.g hp)) upd_same
theorem w_tup (x : Wd a G H) (k : ∀ p G' H', Gr A0 G H G' H' → Wd a G' H' → G' p = some (.tup xs) → Q (.ref p) H') :
    ∀ p, H p = none → Q (.ref p) (upd H p (.tup xs)) := fun p hp => k p _ _ (Gr.new x.g hp) (x.pure (Gr.new x.g hp)) upd_same
end
theorem new_ex {G H : Hp} {p : Addr} (g : Ex G H) (hp : H p = none) (o : HO) : ∃ G' H', H' = upd H p o ∧ Gr A0 G H G' H' ∧ G' p = some o :=
  ⟨_, _, rfl, Gr.new g hp, upd_same⟩
theorem w_new {a p : Addr} {G H : Hp} (x : Wd a G H) (hp : H p = none) (o : HO) : ∃ G' H', H' = upd H p o ∧ Gr A0 G H G' H' ∧ Wd a G' H' ∧ G' p = some o :=
  ⟨_, _, rfl, Gr.new x.g hp, x.pure (Gr.new x.g hp), upd_same⟩
theorem atI_m1 {xs : List V} (h : xs ≠ []) : ∃ x, atI xs (-1) = some x ∧ x ∈ xs := by
  obtain ⟨l, y, rfl⟩ : ∃ l y, xs = l ++ [y] := ⟨_, _, (List.dropLast_concat_getLast h).symm⟩
  exact ⟨y, atI_last _ _, by simp⟩
theorem own_ex {G H : Hp} {p : Addr} (g : Ex G H) (hp : H p = none) (o : HO) : ∃ H', H' = upd H p o ∧ Gr A0 G H G H' ∧ H' p = some o ∧ G p = none :=
  ⟨_, rfl, Gr.own g hp, upd_same, g.free hp⟩
theorem Gr.fresh {A : Addr → Prop} {G H G1 H1 : Hp} {p : Addr} (t : Gr A G H G1 H1) (h : H1 p = none) : H p = none := by
  cases e : H p with
  | none => rfl
  | some o =>
    obtain ⟨o', z⟩ := t.th p o e
    rw [h] at z
    cases z
theorem ixN_nat {n : Nat} {i : Int} (h0 : 0 ≤ i) (h : i < (n : Int)) : ixN n i = some i.toNat := by
  unfold ixN
  rw [if_pos h0, if_pos h]
/-! loops whose source is reckoned -/
section
variable {K : PySem.W.Frag} {σ : L2.St} {H : Hp} {tl : TE} {ta : TA} {g : TG} {tb : TS} {D : Ends}
def LoopW (J : It) (g : TG) (tb : TS) (D : Ends) (σ : L2.St) (H1 : Hp) : Prop := ∃ W : Nat → Nat → L2.St → Hp → Prop, (∃ m, W 0 m σ H1) ∧ ∀ i m σ H, W i m σ H →
  (J.stop i H ∧ D.nx σ H) ∨ (J.go i H ∧ ∃ N : L2.St → Hp → Prop, (∀ σ' H', N σ' H' → ∃ m', m' < m ∧ W (i + 1) m' σ' H') ∧ ∀ x H', J.yld i H x H' → g x σ H' fun σ2 H2 => tb { D with nx := N, ct := N, bk := D.nx } σ2 H2)
theorem r_forLo (h : tl σ H fun x H1 => ∃ a, x = .ref a ∧ (∃ xs, SqL K H1 a xs) ∧ LoopW (Itl K a) g tb D σ H1) : tFor (iList K tl) g tb D σ H := h
theorem r_forTo (h : tl σ H fun x H1 => ∃ a, x = .ref a ∧ (∃ xs, SqT K H1 a xs) ∧ LoopW (Itt K a) g tb D σ H1) : tFor (iTup K tl) g tb D σ H := h
theorem r_forSo (h : tl σ H fun x H1 => ∃ z, x = .str z ∧ LoopW (Its z) g tb D σ H1) : tFor (iStr tl) g tb D σ H := h
theorem r_forRo (h : ta σ H fun vs H1 => ∃ j : Int, vs = [.int j] ∧ -(2 ^ 62) ≤ j ∧ j < 2 ^ 62 ∧ LoopW (Itr 0 j.toNat) g tb D σ H1) : tFor (iRng1 ta) g tb D σ H := h
theorem r_forR2o (h : ta σ H fun vs H1 => ∃ i j : Int, vs = [.int i, .int j] ∧ (-(2 ^ 62) ≤ i ∧ i < 2 ^ 62 ∧ -(2 ^ 62) ≤ j ∧ j < 2 ^ 62) ∧ LoopW (Itr i (j - i).toNat) g tb D σ H1) : tFor (iRng2 ta) g tb D σ H := h
theorem r_forEo (h : ta σ H fun vs H1 => ∃ a xs, vs = [.ref a] ∧ SqT K H1 a xs ∧ LoopW (ItE (fun H => SqT K H a xs) xs.length fun i _ x => xs[i]? = some x) g tb D σ H1) : tFor (Dk.iEnumT K ta) g tb D σ H := h
theorem r_forESo (h : ta σ H fun vs H1 => ∃ z, vs = [.str z] ∧ LoopW (ItE (fun _ => True) z.cps.size fun i _ x => ∃ c, z.cps[i]? = some c ∧ x = .str ⟨#[c]⟩) g tb D σ H1) : tFor (Dk.iEnumS ta) g tb D σ H := h
theorem l_L {a : Addr} {xs : List V} (hs : SqL K H a xs) (Pv : Nat → L2.St → Hp → Prop) (p0 : Pv 0 σ H) (hl : ∀ i σ H, Pv i σ H → SqL K H a xs)
    (ht : ∀ i x σ H, xs[i]? = some x → Pv i σ H → g x σ H fun σ2 H2 => tb { D with nx := Pv (i + 1), ct := Pv (i + 1), bk := D.nx } σ2 H2) (hd : ∀ σ H, Pv xs.length σ H → D.nx σ H) :
    ∃ b, V.ref a = .ref b ∧ (∃ xs, SqL K H b xs) ∧ LoopW (Itl K b) g tb D σ H :=
  ⟨a, rfl, ⟨xs, hs⟩, for_it walk_list Pv p0 (fun i σ H _ p => hl i σ H p) (fun i x σ H H' hi p y => by
    obtain ⟨rfl, hx⟩ := y
    exact ht i x σ _ hx p) hd⟩
theorem l_T {a : Addr} {xs : List V} (hs : SqT K H a xs) (Pv : Nat → L2.St → Hp → Prop) (p0 : Pv 0 σ H) (hl : ∀ i σ H, Pv i σ H → SqT K H a xs)
    (ht : ∀ i x σ H, xs[i]? = some x → Pv i σ H → g x σ H fun σ2 H2 => tb { D with nx := Pv (i + 1), ct := Pv (i + 1), bk := D.nx } σ2 H2) (hd : ∀ σ H, Pv xs.length σ H → D.nx σ H) :
    ∃ b, V.ref a = .ref b ∧ (∃ xs, SqT K H b xs) ∧ LoopW (Itt K b) g tb D σ H :=
  ⟨a, rfl, ⟨xs, hs⟩, for_it walk_tup Pv p0 (fun i σ H _ p => hl i σ H p) (fun i x σ H H' hi p y => by
    obtain ⟨rfl, hx⟩ := y
    exact ht i x σ _ hx p) hd⟩
theorem l_S {z : Str} (Pv : Nat → L2.St → Hp → Prop) (p0 : Pv 0 σ H)
    (ht : ∀ i c σ H, (cs z)[i]? = some c → Pv i σ H → g (.str ⟨#[c]⟩) σ H fun σ2 H2 => tb { D with nx := Pv (i + 1), ct := Pv (i + 1), bk := D.nx } σ2 H2) (hd : ∀ σ H, Pv z.length σ H → D.nx σ H) :
    ∃ y, V.str z = .str y ∧ LoopW (Its y) g tb D σ H := by
  refine ⟨z, rfl, for_it walk_str Pv p0 (fun _ _ _ _ _ => trivial) (fun i x σ H H' hi p y => ?_) hd⟩
  obtain ⟨rfl, c, hc, rfl⟩ := y
  exact ht i c σ _ (by rw [Array.getElem?_toList]; exact hc) p
theorem l_R {n : Int} (h1 : -1000000 ≤ n) (h2 : n ≤ 1000000) (Pv : Nat → L2.St → Hp → Prop) (p0 : Pv 0 σ H)
    (ht : ∀ (i : Nat) σ H, (i : Int) < n → Pv i σ H → g (.int (i : Nat)) σ H fun σ2 H2 => tb { D with nx := Pv (i + 1), ct := Pv (i + 1), bk := D.nx } σ2 H2) (hd : ∀ σ H, Pv n.toNat σ H → D.nx σ H) :
    ∃ j : Int, [V.int n] = [.int j] ∧ -(2 ^ 62) ≤ j ∧ j < 2 ^ 62 ∧ LoopW (Itr 0 j.toNat) g tb D σ H := by
  refine ⟨n, rfl, by omega, by omega, for_range Pv p0 (fun i σ H hi p => ?_) hd⟩
  have z := ht i σ H (by omega) p
  rw [Int.zero_add]
  exact z
theorem l_E {a : Addr} {xs : List V} (hs : SqT K H a xs) (Pv : Nat → L2.St → Hp → Prop) (p0 : Pv 0 σ H) (hl : ∀ i σ H, Pv i σ H → SqT K H a xs)
    (ht : ∀ i x σ H p, xs[i]? = some x → Pv i σ H → H p = none → g (.ref p) σ (upd H p (.tup [.int (i : Nat), x])) fun σ2 H2 => tb { D with nx := Pv (i + 1), ct := Pv (i + 1), bk := D.nx } σ2 H2)
    (hd : ∀ σ H, Pv xs.length σ H → D.nx σ H) : ∃ b ys, [V.ref a] = [.ref b] ∧ SqT K H b ys ∧ LoopW (ItE (fun H => SqT K H b ys) ys.length fun i _ x => ys[i]? = some x) g tb D σ H := by
  refine ⟨a, xs, rfl, hs, for_it walk_E Pv p0 (fun i σ H _ p => hl i σ H p) (fun i x σ H H' hi p y => ?_) hd⟩
  obtain ⟨T, x', rfl, hT, rfl, hx⟩ := y
  exact ht i x' σ H T hx p hT
end
theorem cutV_mem {xs : List V} {lo hi : Option Int} {x : V} (h : x ∈ cutV xs lo hi) : x ∈ xs := List.mem_of_mem_drop (List.mem_of_mem_take h)
theorem cutV_len {xs : List V} {lo hi : Option Int} : (cutV xs lo hi).length ≤ xs.length := by
  unfold cutV
  rw [List.length_take, List.length_drop]
  omega
theorem cutV_to (xs : List V) (n : Nat) : cutV xs none (some (n : Int)) = xs.take n := by
  unfold cutV
  rw [HT.sIx_nat, HT.sIx_none, List.drop_zero, Nat.sub_zero]
  by_cases h : n ≤ xs.length
  · rw [Nat.min_eq_left h]
  · rw [Nat.min_eq_right (by omega), List.take_of_length_le (Nat.le_refl _), List.take_of_length_le (by omega)]
theorem atI_lt {xs : List V} {i : Int} (h0 : 0 ≤ i) (h : i < (xs.length : Int)) : ∃ x, atI xs i = some x ∧ x ∈ xs := by
  have hi : i.toNat < xs.length := by omega
  exact ⟨xs[i.toNat], at_g (by omega) (List.getElem?_eq_getElem hi), List.getElem_mem _⟩
end Dk

/-! the told order: signs, the relation by its hops, its closure by rounds over a table of bits -/
namespace Tl
abbrev Sg := Nat × Nat
section
variable (L R : Nat → Sg)
/-- told ahead, by hops -/
inductive A : Sg → Sg → Prop where
  | same {x y : Sg} (h : x.1 = y.1) (i : x.2 < y.2) : A x y
  | rEq {x y : Sg} (h : y.1 < x.1) (e : R x.1 = y) : A x y
  | rGo {x y : Sg} (h : y.1 < x.1) (a : A (R x.1) y) : A x y
  | lEq {x y : Sg} (h : x.1 < y.1) (e : x = L y.1) : A x y
  | lGo {x y : Sg} (h : x.1 < y.1) (a : A x (L y.1)) : A x y
def E (x y : Sg) : Prop := x = y ∨ A L R x y
end
section
variable {L R : Nat → Sg} {x y z : Sg}
theorem A.same_iff (h : x.1 = y.1) : A L R x y ↔ x.2 < y.2 :=
  ⟨fun a => by cases a with
    | same _ i => exact i
    | rEq g _ => omega
    | rGo g _ => omega
    | lEq g _ => omega
    | lGo g _ => omega, fun i => .same h i⟩
theorem A.r_iff (h : y.1 < x.1) : A L R x y ↔ E L R (R x.1) y :=
  ⟨fun a => by cases a with
    | same g _ => omega
    | rEq _ e => exact .inl e
    | rGo _ a => exact .inr a
    | lEq g _ => omega
    | lGo g _ => omega, fun e => e.elim (.rEq h) (.rGo h)⟩
theorem A.l_iff (h : x.1 < y.1) : A L R x y ↔ E L R x (L y.1) :=
  ⟨fun a => by cases a with
    | same g _ => omega
    | rEq g _ => omega
    | rGo g _ => omega
    | lEq _ e => exact .inl e
    | lGo _ a => exact .inr a, fun e => e.elim (.lEq h) (.lGo h)⟩
theorem A.irr : ¬ A L R x x := fun a => by
  have z := (A.same_iff (L := L) (R := R) (rfl : x.1 = x.1)).mp a
  omega
/-- births below n: left and right of lesser chunks, the left told ahead of the right -/
structure Bs (L R : Nat → Sg) (n : Nat) : Prop where
  l : ∀ c, 0 < c → c < n → (L c).1 < c
  r : ∀ c, 0 < c → c < n → (R c).1 < c
  lr : ∀ c, 0 < c → c < n → A L R (L c) (R c)
theorem Bs.mono {n m : Nat} (b : Bs L R n) (h : m ≤ n) : Bs L R m := ⟨fun c h0 h1 => b.l c h0 (by omega), fun c h0 h1 => b.r c h0 (by omega), fun c h0 h1 => b.lr c h0 (by omega)⟩
theorem Bs.trans {n : Nat} (b : Bs L R n) : ∀ m, m ≤ n → ∀ x y z : Sg, x.1 < m → y.1 < m → z.1 < m → A L R x y → A L R y z → A L R x z := by
  intro m
  induction m with
  | zero => intro _ x y z h; omega
  | succ m ih =>
    intro hm x y z hx hy hz a1 a2
    have ih' := ih (by omega)
    have eT : ∀ {u v t : Sg}, u.1 < m → v.1 < m → t.1 < m → E L R u v → A L R v t → A L R u t := fun h1 h2 h3 e a => by
      rcases e with rfl | e
      · exact a
      · exact ih' _ _ _ h1 h2 h3 e a
    have tE : ∀ {u v t : Sg}, u.1 < m → v.1 < m → t.1 < m → A L R u v → E L R v t → A L R u t := fun h1 h2 h3 a e => by
      rcases e with rfl | e
      · exact a
      · exact ih' _ _ _ h1 h2 h3 a e
    by_cases cx : x.1 = m
    · by_cases cy : y.1 = m
      · by_cases cz : z.1 = m
        · have i1 := (A.same_iff (by omega)).mp a1
          have i2 := (A.same_iff (by omega)).mp a2
          exact .same (by omega) (by omega)
        · have e2 := (A.r_iff (by omega)).mp a2
          exact (A.r_iff (by omega)).mpr (by rw [show x.1 = y.1 by omega]; exact e2)
      · by_cases cz : z.1 = m
        · exfalso
          have m0 : 0 < m := by omega
          have hl := b.l m m0 (by omega)
          have hr := b.r m m0 (by omega)
          have hlr := b.lr m m0 (by omega)
          have e1 := (A.r_iff (by omega)).mp a1
          have e2 := (A.l_iff (by omega)).mp a2
          rw [cx] at e1
          rw [cz] at e2
          have a3 : A L R (L m) y := tE hl hr (by omega) hlr e1
          have a4 : A L R (L m) (L m) := tE hl (by omega) hl a3 e2
          exact A.irr a4
        · have e1 := (A.r_iff (by omega)).mp a1
          have hr := b.r x.1 (by omega) (by omega)
          exact (A.r_iff (by omega)).mpr (.inr (eT (by omega) (by omega) (by omega) e1 a2))
    · by_cases cy : y.1 = m
      · by_cases cz : z.1 = m
        · have e1 := (A.l_iff (by omega)).mp a1
          exact (A.l_iff (by omega)).mpr (by rw [show z.1 = y.1 by omega]; exact e1)
        · have e1 := (A.l_iff (by omega)).mp a1
          have e2 := (A.r_iff (by omega)).mp a2
          have hl := b.l y.1 (by omega) (by omega)
          have hr := b.r y.1 (by omega) (by omega)
          have hlr := b.lr y.1 (by omega) (by omega)
          have a3 := eT (by omega) (by omega) (by omega) e1 hlr
          exact tE (by omega) (by omega) (by omega) a3 e2
      · by_cases cz : z.1 = m
        · have e2 := (A.l_iff (by omega)).mp a2
          have hl := b.l z.1 (by omega) (by omega)
          exact (A.l_iff (by omega)).mpr (.inr (tE (by omega) (by omega) (by omega) a1 e2))
        · exact ih' x y z (by omega) (by omega) (by omega) a1 a2
theorem Bs.tr {n : Nat} (b : Bs L R n) (hx : x.1 < n) (hy : y.1 < n) (hz : z.1 < n) (a1 : A L R x y) (a2 : A L R y z) : A L R x z := b.trans n (Nat.le_refl n) x y z hx hy hz a1 a2
/-- only births up to the greater chunk count -/
theorem A.congr {L' R' : Nat → Sg} {n : Nat} (hl : ∀ c, 0 < c → c < n → L c = L' c) (hr : ∀ c, 0 < c → c < n → R c = R' c) (b : ∀ c, 0 < c → c < n → (L c).1 < c ∧ (R c).1 < c) :
    ∀ {x y : Sg}, A L R x y → x.1 < n → y.1 < n → A L' R' x y := fun {x y} a => by
  induction a with
  | same h i => exact fun _ _ => .same h i
  | @rEq x y h e => exact fun hx hy => .rEq h ((hr x.1 (by omega) hx).symm.trans e)
  | @rGo x y h a ih =>
    intro hx hy
    have e := hr x.1 (by omega) hx
    have w := (b x.1 (by omega) hx).2
    exact .rGo h (e ▸ ih (by omega) hy)
  | @lEq x y h e => exact fun hx hy => .lEq h (e.trans (hl y.1 (by omega) hy))
  | @lGo x y h a ih =>
    intro hx hy
    have e := hl y.1 (by omega) hy
    have w := (b y.1 (by omega) hy).1
    exact .lGo h (e ▸ ih hx (by omega))
end
/-! ### paths -/
inductive Pth (S : List (Nat × Nat)) : Nat → Nat → Nat → Prop where
  | one {a b : Nat} (h : (a, b) ∈ S) : Pth S 1 a b
  | step {k a b c : Nat} (h : (a, b) ∈ S) (p : Pth S k b c) : Pth S (k + 1) a c
def Rch (S : List (Nat × Nat)) (a b : Nat) : Prop := ∃ k, Pth S k a b
section
variable {S : List (Nat × Nat)} {a b c : Nat}
theorem Pth.app {k m : Nat} (p : Pth S k a b) (q : Pth S m b c) : Rch S a c := by
  induction p with
  | one h => exact ⟨_, .step h q⟩
  | step h p ih =>
    obtain ⟨k', r⟩ := ih q
    exact ⟨_, .step h r⟩
theorem Rch.tr (p : Rch S a b) (q : Rch S b c) : Rch S a c := by
  obtain ⟨k, p⟩ := p
  obtain ⟨m, q⟩ := q
  exact p.app q
/-- a list without repeats within another one is no longer -/
theorem nodup_le : ∀ {l m : List Nat}, l.Nodup → (∀ x ∈ l, x ∈ m) → l.length ≤ m.length
  | [], m, _, _ => Nat.zero_le _
  | x :: r, m, hn, hm => by
    have hx : x ∈ m := hm x (List.mem_cons_self ..)
    have hn' := List.nodup_cons.mp hn
    have h1 : ∀ y ∈ r, y ∈ m.erase x := fun y hy => (List.mem_erase_of_ne (by
      rintro rfl
      exact hn'.1 hy)).mpr (hm y (List.mem_cons_of_mem _ hy))
    have h2 := nodup_le hn'.2 h1
    rw [List.length_erase_of_mem hx] at h2
    have h3 : 0 < m.length := List.length_pos_of_mem hx
    rw [List.length_cons]
    omega
theorem Pth.bound {k n : Nat} {lt : Nat → Nat → Prop} (hS : ∀ a b, (a, b) ∈ S → lt a b ∧ a < n ∧ b < n) (tr : ∀ a b c, a < n → b < n → c < n → lt a b → lt b c → lt a c) (ir : ∀ a, ¬ lt a a) (p : Pth S k a b) : k + 1 ≤ n := by
  have key : ∀ {k a b}, Pth S k a b → ∃ l : List Nat, l.length = k ∧ (a :: l).Nodup ∧ (∀ x ∈ l, lt a x) ∧ ∀ x ∈ a :: l, x < n := by
    intro k a b p
    induction p with
    | @one a b h =>
      obtain ⟨h1, h2, h3⟩ := hS _ _ h
      refine ⟨[b], rfl, ?_, by simpa using h1, by simp [h2, h3]⟩
      simp
      exact fun e => ir a (e ▸ h1)
    | @step k a b c h p ih =>
      obtain ⟨l, hl, hn, hlt, hb⟩ := ih
      obtain ⟨h1, h2, h3⟩ := hS _ _ h
      have all : ∀ x ∈ b :: l, lt a x := fun x hx => by
        rcases List.mem_cons.mp hx with rfl | hx
        · exact h1
        · exact tr a b x h2 h3 (hb x (List.mem_cons_of_mem _ hx)) h1 (hlt x hx)
      refine ⟨b :: l, by rw [List.length_cons, hl], List.nodup_cons.mpr ⟨fun hm => ir a (all a hm), hn⟩, all, fun x hx => ?_⟩
      rcases List.mem_cons.mp hx with rfl | hx
      · exact h2
      · exact hb x hx
  obtain ⟨l, hl, hn, _, hb⟩ := key p
  have z := nodup_le (m := List.range n) hn fun x hx => List.mem_range.mpr (hb x hx)
  rw [List.length_cons, hl, List.length_range] at z
  exact z
end
/-! ### the table -/
def put (T : List Nat) (e : Nat × Nat) : List Nat := T.set e.1 (T.getD e.1 0 ||| 1 <<< e.2 ||| T.getD e.2 0)
def lap (S : List (Nat × Nat)) (T : List Nat) : List Nat := S.foldl put T
/-- T has b behind a -/
def Bit (T : List Nat) (a b : Nat) : Prop := (T.getD a 0).testBit b = true
section
variable {S : List (Nat × Nat)} {T : List Nat} {n : Nat}
theorem put_len (e : Nat × Nat) : (put T e).length = T.length := List.length_set ..
theorem lap_len : ∀ (S : List (Nat × Nat)) (T : List Nat), (lap S T).length = T.length
  | [], _ => rfl
  | e :: r, T => (lap_len r (put T e)).trans (put_len e)
theorem bit_put {e : Nat × Nat} (h : e.1 < T.length) {a b : Nat} : Bit (put T e) a b ↔ Bit T a b ∨ (a = e.1 ∧ (b = e.2 ∨ Bit T e.2 b)) := by
  unfold Bit put
  by_cases ha : a = e.1
  · subst ha
    have g : (T.set e.1 (T.getD e.1 0 ||| 1 <<< e.2 ||| T.getD e.2 0)).getD e.1 0 = T.getD e.1 0 ||| 1 <<< e.2 ||| T.getD e.2 0 := by
      simp [List.getD, List.getElem?_set, h]
    rw [g, Nat.testBit_or, Nat.testBit_or, Nat.one_shiftLeft, Nat.testBit_two_pow, Bool.or_eq_true, Bool.or_eq_true, decide_eq_true_iff]
    constructor
    · rintro ((h | h) | h)
      · exact .inl h
      · exact .inr ⟨rfl, .inl h.symm⟩
      · exact .inr ⟨rfl, .inr h⟩
    · rintro (h | ⟨_, h | h⟩)
      · exact .inl (.inl h)
      · exact .inl (.inr h.symm)
      · exact .inr h
  · have g : (T.set e.1 (T.getD e.1 0 ||| 1 <<< e.2 ||| T.getD e.2 0)).getD a 0 = T.getD a 0 := by
      simp [List.getD, List.getElem?_set, Ne.symm ha]
    rw [g]
    constructor
    · exact fun h => .inl h
    · rintro (h | ⟨h, _⟩)
      · exact h
      · exact absurd h ha
theorem lap_mono : ∀ (S : List (Nat × Nat)) {T : List Nat}, (∀ e ∈ S, e.1 < T.length) → ∀ {a b}, Bit T a b → Bit (lap S T) a b
  | [], _, _, _, _, h => h
  | e :: r, T, hS, a, b, h => lap_mono r (fun e' he => by rw [put_len]; exact hS e' (List.mem_cons_of_mem _ he)) ((bit_put (hS e (List.mem_cons_self ..))).mpr (.inl h))
theorem lap_edge : ∀ (S : List (Nat × Nat)) {T : List Nat}, (∀ e ∈ S, e.1 < T.length) → ∀ {a b c}, (a, b) ∈ S → c = b ∨ Bit T b c → Bit (lap S T) a c
  | e :: r, T, hS, a, b, c, hm, h => by
    have hr : ∀ e' ∈ r, e'.1 < (put T e).length := fun e' he => by rw [put_len]; exact hS e' (List.mem_cons_of_mem _ he)
    rcases List.mem_cons.mp hm with rfl | hm
    · exact lap_mono r hr ((bit_put (hS _ (List.mem_cons_self ..))).mpr (.inr ⟨rfl, h⟩))
    · refine lap_edge r hr hm (h.imp id fun h => (bit_put (hS e (List.mem_cons_self ..))).mpr (.inl h))
theorem lap_sound : ∀ (S : List (Nat × Nat)) {S0 : List (Nat × Nat)} {T : List Nat}, (∀ e ∈ S, e ∈ S0) → (∀ e ∈ S, e.1 < T.length) → (∀ a b, Bit T a b → Rch S0 a b) → ∀ a b, Bit (lap S T) a b → Rch S0 a b
  | [], _, _, _, _, h => h
  | e :: r, S0, T, h0, hS, h => lap_sound r (fun e' he => h0 e' (List.mem_cons_of_mem _ he)) (fun e' he => by rw [put_len]; exact hS e' (List.mem_cons_of_mem _ he)) fun a b hb => by
    refine Or.elim ((bit_put (hS e (List.mem_cons_self ..))).mp hb) (fun hb => h a b hb) fun hb => ?_
    · obtain ⟨ea, hb2⟩ := hb
      subst ea
      have he : Rch S0 e.1 e.2 := ⟨1, .one (h0 e (List.mem_cons_self ..))⟩
      refine Or.elim hb2 (fun e1 => ?_) (fun hb => he.tr (h _ _ hb))
      rw [e1]
      exact he
/-- behind r laps all paths of at most r steps are there -/
def Upto (S : List (Nat × Nat)) (T : List Nat) (r : Nat) : Prop := ∀ k a b, Pth S k a b → k ≤ r → Bit T a b
theorem Upto.lap {r : Nat} (hS : ∀ e ∈ S, e.1 < T.length) (u : Upto S T r) : Upto S (lap S T) (r + 1) := fun k a b p hk => by
  cases p with
  | one h => exact lap_edge S hS h (.inl rfl)
  | step h p => exact lap_edge S hS h (.inr (u _ _ _ p (by omega)))
/-- where a lap changes nothing all paths are there -/
theorem still_all (hS : ∀ e ∈ S, e.1 < T.length) (h : ∀ a b c, (a, b) ∈ S → c = b ∨ Bit T b c → Bit T a c) {a b : Nat} (p : Rch S a b) : Bit T a b := by
  obtain ⟨k, p⟩ := p
  induction p with
  | one h' => exact h _ _ _ h' (.inl rfl)
  | step h' p ih => exact h _ _ _ h' (.inr ih)
end
end Tl

namespace Tl
/-! ### signs in a row, steps -/
section
variable (sz : Nat → Nat)
def off : Nat → Nat
  | 0 => 0
  | c + 1 => off c + sz c
def rowOf (c : Nat) : List Sg := (List.range (sz c)).map fun i => (c, i)
def marks : Nat → List Sg
  | 0 => []
  | c + 1 => marks c ++ rowOf sz c
def ps (x : Sg) : Nat := off sz x.1 + x.2
/-- a sign of the births below n -/
def Ok (n : Nat) (x : Sg) : Prop := x.1 < n ∧ x.2 < sz x.1
end
section
variable {sz : Nat → Nat} {n : Nat} {x y : Sg}
theorem rowOf_len (c : Nat) : (rowOf sz c).length = sz c := by simp [rowOf]
theorem marks_len : ∀ n, (marks sz n).length = off sz n
  | 0 => rfl
  | n + 1 => by
    show (marks sz n ++ rowOf sz n).length = off sz n + sz n
    rw [List.length_append, marks_len n, rowOf_len]
theorem marks_at : ∀ {n : Nat} {x : Sg}, Ok sz n x → (marks sz n)[ps sz x]? = some x
  | 0, x, h => absurd h.1 (Nat.not_lt_zero _)
  | n + 1, x, h => by
    show (marks sz n ++ rowOf sz n)[ps sz x]? = some x
    by_cases hx : x.1 < n
    · have ih := marks_at (n := n) ⟨hx, h.2⟩
      obtain ⟨hl, _⟩ := List.getElem?_eq_some_iff.mp ih
      rw [List.getElem?_append_left hl]
      exact ih
    · have e : x.1 = n := by have := h.1; omega
      have e2 : ps sz x = (marks sz n).length + x.2 := by unfold ps; rw [marks_len, e]
      rw [e2, List.getElem?_append_right (by omega), Nat.add_sub_cancel_left]
      unfold rowOf
      rw [List.getElem?_map, List.getElem?_range (by rw [← e]; exact h.2)]
      show some (n, x.2) = some x
      rw [← e]
theorem mem_marks : ∀ {n : Nat} {x : Sg}, x ∈ marks sz n ↔ Ok sz n x
  | 0, x => by simp [marks, Ok]
  | n + 1, x => by
    show x ∈ marks sz n ++ rowOf sz n ↔ _
    rw [List.mem_append, mem_marks]
    unfold rowOf Ok
    simp only [List.mem_map, List.mem_range]
    constructor
    · rintro (⟨h1, h2⟩ | ⟨i, hi, rfl⟩)
      · exact ⟨by omega, h2⟩
      · exact ⟨by show n < n + 1; omega, hi⟩
    · rintro ⟨h1, h2⟩
      by_cases hx : x.1 < n
      · exact .inl ⟨hx, h2⟩
      · have e : x.1 = n := by omega
        refine .inr ⟨x.2, by rw [← e]; exact h2, ?_⟩
        rw [← e]
theorem ps_lt (h : Ok sz n x) : ps sz x < off sz n := by
  have := (List.getElem?_eq_some_iff.mp (marks_at h)).1
  rw [marks_len] at this
  exact this
theorem ps_inj (hx : Ok sz n x) (hy : Ok sz n y) (e : ps sz x = ps sz y) : x = y := by
  have h1 := marks_at hx
  rw [e, marks_at hy] at h1
  exact (Option.some.inj h1).symm
theorem sign_at {j : Nat} (h : j < off sz n) : ∃ x, Ok sz n x ∧ ps sz x = j := by
  have hj : j < (marks sz n).length := by rw [marks_len]; exact h
  have hm : (marks sz n)[j] ∈ marks sz n := List.getElem_mem hj
  have ok := mem_marks.mp hm
  refine ⟨_, ok, ?_⟩
  have key : ∀ {n j : Nat} {x : Sg}, (marks sz n)[j]? = some x → ps sz x = j := by
    intro n
    induction n with
    | zero => intro j x h; simp [marks] at h
    | succ n ih =>
      intro j x h
      have h' : (marks sz n ++ rowOf sz n)[j]? = some x := h
      by_cases hl : j < (marks sz n).length
      · rw [List.getElem?_append_left hl] at h'
        exact ih h'
      · rw [List.getElem?_append_right (by omega)] at h'
        unfold rowOf at h'
        rw [List.getElem?_map] at h'
        obtain ⟨i, hi, rfl⟩ := Option.map_eq_some_iff.mp h'
        have e := (List.getElem?_eq_some_iff.mp hi).2
        simp at e
        unfold ps
        show off sz n + i = j
        rw [marks_len] at e hl
        omega
  exact key (List.getElem?_eq_getElem hj)
end
section
variable (L R : Nat → Sg) (sz : Nat → Nat)
def stepsOf (c : Nat) : List (Nat × Nat) := (ps sz (L c), off sz c) :: ((List.range (sz c - 1)).map fun i => (off sz c + i, off sz c + i + 1)) ++ [(off sz c + sz c - 1, ps sz (R c))]
/-- the steps of the births 1 to n -/
def steps : Nat → List (Nat × Nat)
  | 0 => [(0, 1)]
  | n + 1 => steps n ++ stepsOf L R sz (n + 1)
/-- births below n, as a sheet may make them -/
structure Wv (n : Nat) : Prop extends Bs L R n where
  n0 : 0 < n
  s0 : sz 0 = 2
  s1 : ∀ c, 0 < c → c < n → 0 < sz c
  lo : ∀ c, 0 < c → c < n → (L c).2 < sz (L c).1
  ro : ∀ c, 0 < c → c < n → (R c).2 < sz (R c).1
end
section
variable {L R : Nat → Sg} {sz : Nat → Nat} {n : Nat}
theorem Wv.okL (w : Wv L R sz n) {c : Nat} (h0 : 0 < c) (h : c < n) : Ok sz n (L c) := ⟨Nat.lt_trans (w.l c h0 h) h, w.lo c h0 h⟩
theorem Wv.okR (w : Wv L R sz n) {c : Nat} (h0 : 0 < c) (h : c < n) : Ok sz n (R c) := ⟨Nat.lt_trans (w.r c h0 h) h, w.ro c h0 h⟩
theorem Wv.mono (w : Wv L R sz n) {m : Nat} (h0 : 0 < m) (h : m ≤ n) : Wv L R sz m :=
  { Bs.mono w.toBs h with n0 := h0, s0 := w.s0, s1 := fun c h1 h2 => w.s1 c h1 (by omega), lo := fun c h1 h2 => w.lo c h1 (by omega), ro := fun c h1 h2 => w.ro c h1 (by omega) }
theorem mem_steps {m : Nat} {e : Nat × Nat} : e ∈ steps L R sz m ↔ e = (0, 1) ∨ ∃ c, 0 < c ∧ c ≤ m ∧ e ∈ stepsOf L R sz c := by
  induction m with
  | zero =>
    show e ∈ [(0, 1)] ↔ _
    rw [List.mem_singleton]
    constructor
    · exact .inl
    · rintro (h | ⟨c, h1, h2, _⟩)
      · exact h
      · omega
  | succ m ih =>
    show e ∈ steps L R sz m ++ stepsOf L R sz (m + 1) ↔ _
    rw [List.mem_append, ih]
    constructor
    · rintro ((h | ⟨c, h1, h2, h3⟩) | h)
      · exact .inl h
      · exact .inr ⟨c, h1, by omega, h3⟩
      · exact .inr ⟨m + 1, by omega, by omega, h⟩
    · rintro (h | ⟨c, h1, h2, h3⟩)
      · exact .inl (.inl h)
      · by_cases hc : c ≤ m
        · exact .inl (.inr ⟨c, h1, hc, h3⟩)
        · have e : c = m + 1 := by omega
          rw [e] at h3
          exact .inr h3
theorem mem_stepsOf {c : Nat} {e : Nat × Nat} : e ∈ stepsOf L R sz c ↔ e = (ps sz (L c), off sz c) ∨ (∃ i, i < sz c - 1 ∧ e = (off sz c + i, off sz c + i + 1)) ∨ e = (off sz c + sz c - 1, ps sz (R c)) := by
  unfold stepsOf
  simp only [List.cons_append, List.mem_cons, List.mem_append, List.mem_map, List.mem_range, List.not_mem_nil, or_false]
  constructor
  · rintro (h | ⟨i, hi, rfl⟩ | h)
    · exact .inl h
    · exact .inr (.inl ⟨i, hi, rfl⟩)
    · exact .inr (.inr h)
  · rintro (h | ⟨i, hi, rfl⟩ | h)
    · exact .inl h
    · exact .inr (.inl ⟨i, hi, rfl⟩)
    · exact .inr (.inr h)
/-- each step is one of the order -/
theorem step_A (w : Wv L R sz n) {a b : Nat} (h : (a, b) ∈ steps L R sz (n - 1)) : ∃ x y, Ok sz n x ∧ Ok sz n y ∧ ps sz x = a ∧ ps sz y = b ∧ A L R x y := by
  have n0 := w.n0
  rcases mem_steps.mp h with h | ⟨c, h1, h2, h3⟩
  · cases h
    refine ⟨(0, 0), (0, 1), ⟨n0, by rw [w.s0]; decide⟩, ⟨n0, by rw [w.s0]; decide⟩, rfl, rfl, .same rfl (by decide)⟩
  · have hc : c < n := by omega
    have hs := w.s1 c h1 hc
    rcases mem_stepsOf.mp h3 with e | ⟨i, hi, e⟩ | e
    · cases e
      exact ⟨L c, (c, 0), w.okL h1 hc, ⟨hc, hs⟩, rfl, rfl, .lEq (w.l c h1 hc) rfl⟩
    · cases e
      exact ⟨(c, i), (c, i + 1), ⟨hc, by show i < sz c; omega⟩, ⟨hc, by show i + 1 < sz c; omega⟩, rfl, by unfold ps; show off sz c + (i + 1) = _; omega, .same rfl (by show i < i + 1; omega)⟩
    · cases e
      exact ⟨(c, sz c - 1), R c, ⟨hc, by show sz c - 1 < sz c; omega⟩, w.okR h1 hc, by unfold ps; show off sz c + (sz c - 1) = _; omega, rfl, .rEq (w.r c h1 hc) rfl⟩
theorem rch_row (w : Wv L R sz n) {c : Nat} (hc : c < n) : ∀ {i j : Nat}, i < j → j < sz c → Rch (steps L R sz (n - 1)) (off sz c + i) (off sz c + j) := by
  intro i j hij
  obtain ⟨d, rfl⟩ : ∃ d, j = i + 1 + d := ⟨j - (i + 1), by omega⟩
  clear hij
  have one : ∀ i, i + 1 < sz c → Rch (steps L R sz (n - 1)) (off sz c + i) (off sz c + i + 1) := by
    intro i hi
    refine ⟨1, .one (mem_steps.mpr ?_)⟩
    by_cases h0 : c = 0
    · subst h0
      have z := w.s0
      have e : i = 0 := by omega
      subst e
      exact .inl rfl
    · exact .inr ⟨c, by omega, by omega, mem_stepsOf.mpr (.inr (.inl ⟨i, by omega, rfl⟩))⟩
  induction d with
  | zero => intro h; exact one i h
  | succ d ih =>
    intro h
    have p := ih (by omega)
    have q := one (i + 1 + d) (by omega)
    exact p.tr q
theorem rch_A (w : Wv L R sz n) {x y : Sg} (a : A L R x y) : Ok sz n x → Ok sz n y → Rch (steps L R sz (n - 1)) (ps sz x) (ps sz y) := by
  have toR : ∀ {x : Sg}, Ok sz n x → 0 < x.1 → Rch (steps L R sz (n - 1)) (ps sz x) (ps sz (R x.1)) := by
    intro x hx h0
    have e : Rch (steps L R sz (n - 1)) (off sz x.1 + sz x.1 - 1) (ps sz (R x.1)) := ⟨1, .one (mem_steps.mpr (.inr ⟨x.1, h0, by have := hx.1; omega, mem_stepsOf.mpr (.inr (.inr rfl))⟩))⟩
    by_cases hl : x.2 = sz x.1 - 1
    · have e2 : ps sz x = off sz x.1 + sz x.1 - 1 := by unfold ps; have := hx.2; omega
      rw [e2]
      exact e
    · have p := rch_row w hx.1 (i := x.2) (j := sz x.1 - 1) (by have := hx.2; omega) (by have := hx.2; omega)
      have e2 : off sz x.1 + (sz x.1 - 1) = off sz x.1 + sz x.1 - 1 := by have := hx.2; omega
      rw [e2] at p
      exact p.tr e
  have toL : ∀ {y : Sg}, Ok sz n y → 0 < y.1 → Rch (steps L R sz (n - 1)) (ps sz (L y.1)) (ps sz y) := by
    intro y hy h0
    have e : Rch (steps L R sz (n - 1)) (ps sz (L y.1)) (off sz y.1) := ⟨1, .one (mem_steps.mpr (.inr ⟨y.1, h0, by have := hy.1; omega, mem_stepsOf.mpr (.inl rfl)⟩))⟩
    by_cases hl : y.2 = 0
    · have e2 : ps sz y = off sz y.1 := by unfold ps; omega
      rw [e2]
      exact e
    · exact e.tr (rch_row w hy.1 (i := 0) (j := y.2) (by omega) hy.2)
  induction a with
  | @same x y h i =>
    intro hx hy
    unfold ps
    rw [← h]
    exact rch_row w hx.1 i (by rw [h]; exact hy.2)
  | @rEq x y h e => intro hx hy; exact e ▸ toR hx (by omega)
  | @rGo x y h a ih => intro hx hy; exact (toR hx (by omega)).tr (ih (w.okR (by omega) hx.1) hy)
  | @lEq x y h e => intro hx hy; exact e ▸ toL hy (by omega)
  | @lGo x y h a ih => intro hx hy; exact (ih hx (w.okL (by omega) hy.1)).tr (toL hy (by omega))
theorem A_rch (w : Wv L R sz n) {x y : Sg} (hx : Ok sz n x) (hy : Ok sz n y) (p : Rch (steps L R sz (n - 1)) (ps sz x) (ps sz y)) : A L R x y := by
  obtain ⟨k, p⟩ := p
  have key : ∀ {k a b}, Pth (steps L R sz (n - 1)) k a b → ∃ u v, Ok sz n u ∧ Ok sz n v ∧ ps sz u = a ∧ ps sz v = b ∧ A L R u v := by
    intro k a b p
    induction p with
    | one h => exact step_A w h
    | step h p ih =>
      obtain ⟨u, v, h1, h2, h3, h4, h5⟩ := step_A w h
      obtain ⟨u', v', g1, g2, g3, g4, g5⟩ := ih
      have e := ps_inj h2 g1 (h4.trans g3.symm)
      subst e
      exact ⟨u, v', h1, g2, h3, g4, w.tr h1.1 h2.1 g2.1 h5 g5⟩
  obtain ⟨u, v, h1, h2, h3, h4, h5⟩ := key p
  have e1 := ps_inj hx h1 h3.symm
  have e2 := ps_inj hy h2 h4.symm
  subst e1 e2
  exact h5
theorem rch_iff (w : Wv L R sz n) {x y : Sg} (hx : Ok sz n x) (hy : Ok sz n y) : Rch (steps L R sz (n - 1)) (ps sz x) (ps sz y) ↔ A L R x y := ⟨A_rch w hx hy, fun a => rch_A w a hx hy⟩
theorem step_lt (w : Wv L R sz n) {a b : Nat} (h : (a, b) ∈ steps L R sz (n - 1)) : a < off sz n ∧ b < off sz n := by
  obtain ⟨x, y, hx, hy, rfl, rfl, _⟩ := step_A w h
  exact ⟨ps_lt hx, ps_lt hy⟩
theorem path_bound (w : Wv L R sz n) {k a b : Nat} (p : Pth (steps L R sz (n - 1)) k a b) : k + 1 ≤ off sz n := by
  refine Pth.bound (lt := fun a b => ∃ x y, Ok sz n x ∧ Ok sz n y ∧ ps sz x = a ∧ ps sz y = b ∧ A L R x y) (fun a b h => ⟨step_A w h, step_lt w h⟩) (fun a b c ha hb hc h1 h2 => ?_) (fun a h => ?_) p
  · obtain ⟨x, y, hx, hy, rfl, rfl, a1⟩ := h1
    obtain ⟨y', z, hy', hz, e, rfl, a2⟩ := h2
    have e' := ps_inj hy' hy e
    subst e'
    exact ⟨x, z, hx, hz, rfl, rfl, w.tr hx.1 hy.1 hz.1 a1 a2⟩
  · obtain ⟨x, y, hx, hy, rfl, e, a1⟩ := h
    have e' := ps_inj hy hx e
    subst e'
    exact A.irr a1
theorem steps_len (w : Wv L R sz n) : off sz n ≤ (steps L R sz (n - 1)).length + 1 := by
  have key : ∀ m, m < n → off sz (m + 1) ≤ (steps L R sz m).length + 1 := by
    intro m
    induction m with
    | zero =>
      intro _
      show 0 + sz 0 ≤ 1 + 1
      rw [w.s0]
      decide
    | succ m ih =>
      intro h
      have z := ih (by omega)
      show off sz (m + 1) + sz (m + 1) ≤ (steps L R sz m ++ stepsOf L R sz (m + 1)).length + 1
      rw [List.length_append]
      have e : (stepsOf L R sz (m + 1)).length = sz (m + 1) - 1 + 2 := by
        unfold stepsOf
        simp
      rw [e]
      omega
  have n0 := w.n0
  have z := key (n - 1) (by omega)
  rw [Nat.sub_add_cancel n0] at z
  exact z
/-- the table tells the order -/
def Tells (L R : Nat → Sg) (sz : Nat → Nat) (n : Nat) (T : List Nat) : Prop := T.length = off sz n ∧ ∀ x y, Ok sz n x → Ok sz n y → (Bit T (ps sz x) (ps sz y) ↔ A L R x y)
/-- the table under way: sound, all paths of at most r steps -/
structure Under (L R : Nat → Sg) (sz : Nat → Nat) (n : Nat) (T : List Nat) (r : Nat) : Prop where
  len : T.length = off sz n
  snd : ∀ a b, Bit T a b → Rch (steps L R sz (n - 1)) a b
  upto : Upto (steps L R sz (n - 1)) T r
theorem Under.zero : Under L R sz n (List.replicate (off sz n) 0) 0 := by
  refine ⟨List.length_replicate, fun a b h => ?_, fun k a b p hk => ?_⟩
  · exfalso
    unfold Bit at h
    have e : (List.replicate (off sz n) 0).getD a 0 = 0 := by
      simp [List.getD, List.getElem?_replicate]
      split <;> rfl
    rw [e] at h
    simp at h
  · cases p <;> omega
theorem Under.fst (w : Wv L R sz n) {T : List Nat} {r : Nat} (u : Under L R sz n T r) : ∀ e ∈ steps L R sz (n - 1), e.1 < T.length := fun e he => by
  rw [u.len]
  exact (step_lt w (a := e.1) (b := e.2) he).1
theorem Under.lap (w : Wv L R sz n) {T : List Nat} {r : Nat} (u : Under L R sz n T r) : Under L R sz n (lap (steps L R sz (n - 1)) T) (r + 1) :=
  ⟨(lap_len _ _).trans u.len, lap_sound _ (fun _ h => h) (u.fst w) u.snd, u.upto.lap (u.fst w)⟩
theorem Under.done (w : Wv L R sz n) {T : List Nat} {r : Nat} (u : Under L R sz n T r) (h : off sz n ≤ r + 1) : Tells L R sz n T :=
  ⟨u.len, fun x y hx hy => ⟨fun b => A_rch w hx hy (u.snd _ _ b), fun a => by
    obtain ⟨k, p⟩ := rch_A w a hx hy
    have z := path_bound w p
    exact u.upto k _ _ p (by omega)⟩⟩
theorem Under.still (w : Wv L R sz n) {T : List Nat} {r : Nat} (u : Under L R sz n T r) (h : ∀ a b c, (a, b) ∈ steps L R sz (n - 1) → c = b ∨ Bit T b c → Bit T a c) : Tells L R sz n T :=
  ⟨u.len, fun x y hx hy => ⟨fun b => A_rch w hx hy (u.snd _ _ b), fun a => still_all (u.fst w) h (rch_A w a hx hy)⟩⟩
end
end Tl

namespace Dk
open PySem PySem.Spec PyProof.Rows L2
/-! ### what never runs -/
def tNv : TE := fun _ _ _ => False
theorem pe_never {X : Cx} {e : Expr} : PE X e tNv := ⟨fun _ _ _ _ _ _ h => h.elim⟩
/-! ### keywords alone -/
section
variable {X : Cx} {CX : CXT} {k : Nat} {f : Addr} {fd : FuncData} {ps ks : List Str} {sp : Sp} {E : XK} {x : Str} {p pos : Pos} {kws : List Keyword} {tk : TA} {g : List Value → List Value → List Value} {gV : List V → List V → List V}
def tCallK0 (sp : Sp) (gV : List V → List V → List V) (E : XK) (tk : TA) : TE := fun σ H Q => tk σ H fun zs H2 => sp (gV [] zs) H2 Q E
theorem pe_callK0 (F : FnOk X.prog X.w X.K X.mg X.base CX k f fd ps sp) (hr : Room k X.A) (hg : Gl X x) (hm : X.mg x = some (.ref f)) (hk : PySem.W.keepIn X.K (.ref f) = true) (hb : KBinds X.K fd ps ks g gV) (hx : Passes CX X E)
    (hkw : PK X kws tk) (hall : (backToKw pos (keywordEach kws X.env)).all (·.1.isSome) = true := by rfl) (hks : (backToKw pos (keywordEach kws X.env)).filterMap (·.1) = ks := by rfl)
    (hdb : (x == ("__debug__" : Str)) = false := by decide)
    (hpl : ((backTo pos (starEach [] X.env)).any (·.1) || (backToKw pos (keywordEach kws X.env)).any (·.1.isNone)) = false := by rfl) :
    PE X (.Call (.Name x p) [] kws pos) (tCallK0 sp gV E tk) := by
  refine ⟨fun pins s σ H Q I h => ?_⟩
  refine wpAny_Call_Name_kw (ld_glob I hg hm ?_ hdb)
  refine PySem.W.callWith_KW0 (h₀ := X.base) I.ok.mod.kin hk hall (thn (hkw.run pos pins s σ H _ I h) fun ws s2 ⟨zs, H2, I2, rz, q2⟩ => ⟨I2.kIn, ?_⟩) hpl
  rw [hks]
  exact run_fnk (us := []) (vs := []) F hr hb hx I2 .nil rz q2
theorem r_callK0 {σ : L2.St} {H : Hp} {Q : VK} (h : tk σ H fun zs H2 => sp (gV [] zs) H2 Q E) : tCallK0 sp gV E tk σ H Q := h
end
/-- three values put in another order -/
def p201 {α : Type} : List α → List α → List α
  | [], [a, b, c] => [b, c, a]
  | _, _ => []
def p210 {α : Type} : List α → List α → List α
  | [], [a, b, c] => [c, b, a]
  | _, _ => []
def p120 {α : Type} : List α → List α → List α
  | [], [a, b, c] => [c, a, b]
  | _, _ => []
theorem p201_rel {vs zs : List V} {us ws : List Value} (r : Vals vs us) (q : Vals zs ws) : Vals (p201 vs zs) (p201 us ws) := by
  cases r with
  | cons => exact .nil
  | nil => rcases q with _ | ⟨a, _ | ⟨b, _ | ⟨c, _ | _⟩⟩⟩
           · exact .nil
           · exact .nil
           · exact .nil
           · exact .cons b (.cons c (.cons a .nil))
           · exact .nil
theorem p210_rel {vs zs : List V} {us ws : List Value} (r : Vals vs us) (q : Vals zs ws) : Vals (p210 vs zs) (p210 us ws) := by
  cases r with
  | cons => exact .nil
  | nil => rcases q with _ | ⟨a, _ | ⟨b, _ | ⟨c, _ | _⟩⟩⟩
           · exact .nil
           · exact .nil
           · exact .nil
           · exact .cons c (.cons b (.cons a .nil))
           · exact .nil
theorem p120_rel {vs zs : List V} {us ws : List Value} (r : Vals vs us) (q : Vals zs ws) : Vals (p120 vs zs) (p120 us ws) := by
  cases r with
  | cons => exact .nil
  | nil => rcases q with _ | ⟨a, _ | ⟨b, _ | ⟨c, _ | _⟩⟩⟩
           · exact .nil
           · exact .nil
           · exact .nil
           · exact .cons c (.cons a (.cons b .nil))
           · exact .nil
def rAbs : List V → Hp → VK → Prop := fun xs H Q => ∃ i, xs = [.int i] ∧ Q (.int (if i < 0 then -i else i)) H
theorem call_absU {X : Cx} : CallR X (.builtin "abs") rAbs := call_abs
/-! ### steps -/
section
variable {K : PySem.W.Frag} {σ : L2.St} {H H' : Hp} {Q : VK} {v x y : V} {i j : Int}
theorem r_bool {b : Bool} (q : Q (.int (if b then 1 else 0)) H) : rInt1 [.bl b] H Q := .inr ⟨b, rfl, q⟩
theorem r_abs (q : Q (.int (i.natAbs : Nat)) H) : rAbs [.int i] H Q := ⟨i, rfl, by
  have e : (if i < 0 then -i else i) = (i.natAbs : Int) := by split <;> omega
  rw [e]
  exact q⟩
theorem r_catT {p q : Addr} {xs ys : List V} (hp : SqT K H p xs) (hq : SqT K H q ys) (nx : xs ≠ []) (ny : ys ≠ []) (hz : xs.length + ys.length ≤ 1000) (k : ∀ l, H l = none → Q (.ref l) (upd H l (.tup (xs ++ ys)))) : rAddU K (.ref p) (.ref q) H Q :=
  .inr (.inr (.inr ⟨p, q, xs, ys, rfl, rfl, hp, hq, by rw [sizeLine_eq]; omega, fun z => absurd z nx, fun _ z => absurd z ny, fun _ _ => k⟩))
theorem r_pop0 {p : Addr} {xs : List V} (h : H p = some (.lst (x :: xs))) (q : Q x (upd H p (.lst xs))) : rPopAt (.ref p) [.int 0] H Q :=
  ⟨p, x :: xs, 0, 0, x, rfl, rfl, h, by decide, by decide, by
    show (if _ then _ else _) = _
    simp, rfl, q⟩
theorem r_isiT2 {a n m : String} {b c : Bool} {tp : Addr} (hT : H tp = some (.tup [.ty n, .ty m])) (ty : TyX K H x (.type a)) (e1 : kitB a n = some b) (e2 : kitB a m = some c) (q : Q (.bl (b || c)) H) : rIsiT K [x, .ref tp] H Q := by
  refine ⟨x, tp, [.ty n, .ty m], .type a, [.type n, .type m], b || c, rfl, hT, .cons (.ty n) (.cons (.ty m) .nil), ty, ?_, q⟩
  refine kitAny_cons (kit_ty e1) (r := b || c) (fun hb => ?_) (fun hb => by rw [hb]; rfl)
  subst hb
  refine kitAny_cons (kit_ty e2) (fun hc => ?_) (fun hc => by rw [hc]; rfl)
  subst hc
  exact kitAny_nil
end
theorem r_eqP {x y : V} {H : Hp} {Q : VK} (h : scal x y = true) (q : Q (.bl (decide (x = y))) H) : rEq x y H Q := ⟨h, q⟩
theorem r_gunl {K : PySem.W.Frag} {σ : L2.St} {H : Hp} {N : L2.St → Hp → Prop} {vs : List V} {u : TGs} {n : Nat} {a : Addr} (h : SqL K H a vs) (hl : vs.length = n) (k : u vs σ H N) : gUnl K n u (.ref a) σ H N := ⟨a, vs, rfl, h, hl, k⟩
theorem r_slT {K : PySem.W.Frag} {H : Hp} {Q : VK} {p : Addr} {xs : List V} {n : Nat} (h : SqT K H p xs) (k1 : xs.length ≤ n → Q (.ref p) H) (k2 : ∀ l, H l = none → Q (.ref l) (upd H l (.tup (xs.take n)))) : rSlU K (.ref p) none (some (n : Int)) H Q := by
  refine .inr (.inr ⟨p, xs, rfl, h, fun z => k1 ?_, fun _ l hl => ?_⟩)
  · have e := z.2
    rw [HT.sIx_nat] at e
    omega
  · rw [cutV_to]
    exact k2 l hl
theorem cutV_from (xs : List V) (n : Nat) : cutV xs (some (n : Int)) none = xs.drop n := by
  unfold cutV
  rw [HT.sIx_nat, HT.sIx_none]
  by_cases h : n ≤ xs.length
  · rw [Nat.min_eq_left h, List.take_of_length_le (by rw [List.length_drop]; omega)]
  · rw [Nat.min_eq_right (by omega), Nat.sub_self, List.take_zero, List.drop_eq_nil_of_le (by omega)]
theorem r_break {σ : L2.St} {H : Hp} {D : Ends} (q : D.bk σ H) : tBreak D σ H := q
theorem r_yes {σ : L2.St} {H : Hp} {QB : Bool → Hp → Prop} (q : QB true H) : tYes σ H QB := q
theorem _root_.L2.Room.units65 {k : Nat} {A : Around} (r : L2.Room k A) : A.units + 65 < cLine := by
  have := r.un
  omega
theorem r_lcRo {ta : TA} {g : TG} {tt : TT} {te : TE} {vs : List Nat} {σ : L2.St} {H : Hp} {Q : VK} (h : ta σ H fun us H1 => ∃ j : Int, us = [.int j] ∧ -(2 ^ 62) ≤ j ∧ j < 2 ^ 62 ∧ ∀ D, H1 D = none → ∃ W : Nat → Nat → Hp → Prop, (∃ m, W 0 m (upd H1 D (.lst []))) ∧ ∀ i m H, W i m H →
  ((Itr 0 j.toNat).stop i H ∧ Q (.ref D) H) ∨ ((Itr 0 j.toNat).go i H ∧ ∃ Nx : Hp → Prop, (∀ H', Nx H' → ∃ m', m' < m ∧ W (i + 1) m' H') ∧ ∀ x H', (Itr 0 j.toNat).yld i H x H' → g x (wipe σ vs) H' fun σ2 H2 => wipe σ2 vs = wipe σ vs ∧ tt σ2 H2 fun b H3 =>
    if b = true then te σ2 H3 fun y H4 => ∃ acc, H4 D = some (.lst acc) ∧ acc.length < sizeLine ∧ Nx (upd H4 D (.lst (acc ++ [y]))) else Nx H3)) : tLc (iRng1 ta) g tt te vs σ H Q := h
/-- [.. for x in range(n)] -/
theorem l_lcR {n : Int} {g : TG} {tt : TT} {te : TE} {vs : List Nat} {σ : L2.St} {H1 : Hp} {Qd : Addr → Hp → Prop} (n0 : -1000000 ≤ n) (n1 : n ≤ 1000000) (Pv : Addr → Nat → Hp → Prop) (h0 : ∀ D, H1 D = none → Pv D 0 (upd H1 D (.lst [])))
    (hs : ∀ D (i : Nat) H, H1 D = none → (i : Int) < n → Pv D i H → g (.int (i : Nat)) (wipe σ vs) H fun σ2 H2 => wipe σ2 vs = wipe σ vs ∧ tt σ2 H2 fun b H3 =>
      if b = true then te σ2 H3 fun y H4 => ∃ acc, H4 D = some (.lst acc) ∧ acc.length < sizeLine ∧ Pv D (i + 1) (upd H4 D (.lst (acc ++ [y]))) else Pv D (i + 1) H3) (hd : ∀ D H, H1 D = none → Pv D n.toNat H → Qd D H) :
    ∃ j : Int, [V.int n] = [.int j] ∧ -(2 ^ 62) ≤ j ∧ j < 2 ^ 62 ∧ ∀ D, H1 D = none → ∃ W : Nat → Nat → Hp → Prop, (∃ m, W 0 m (upd H1 D (.lst []))) ∧ ∀ i m H, W i m H →
  ((Itr 0 j.toNat).stop i H ∧ Qd D H) ∨ ((Itr 0 j.toNat).go i H ∧ ∃ Nx : Hp → Prop, (∀ H', Nx H' → ∃ m', m' < m ∧ W (i + 1) m' H') ∧ ∀ x H', (Itr 0 j.toNat).yld i H x H' → g x (wipe σ vs) H' fun σ2 H2 => wipe σ2 vs = wipe σ vs ∧ tt σ2 H2 fun b H3 =>
    if b = true then te σ2 H3 fun y H4 => ∃ acc, H4 D = some (.lst acc) ∧ acc.length < sizeLine ∧ Nx (upd H4 D (.lst (acc ++ [y]))) else Nx H3) := by
  refine ⟨n, rfl, by omega, by omega, fun D hD => lc_range (lo := 0) (Pv D) (h0 D hD) (fun i H hi p => ?_) fun H p => hd D H hD p⟩
  have z := hs D i H hD (by omega) p
  rw [Int.zero_add]
  exact z
/-- for c in range(1, n) -/
theorem l_R1n {n : Nat} {g : TG} {tb : TS} {σ : L2.St} {H : Hp} {D : Ends} (h1 : 1 ≤ n) (h2 : n ≤ 1000000) (Pv : Nat → L2.St → Hp → Prop) (p0 : Pv 1 σ H)
    (ht : ∀ (c : Nat) σ H, 1 ≤ c → c < n → Pv c σ H → g (.int (c : Nat)) σ H fun σ2 H2 => tb { D with nx := Pv (c + 1), ct := Pv (c + 1), bk := D.nx } σ2 H2) (hd : ∀ σ H, Pv n σ H → D.nx σ H) :
    ∃ i j : Int, [V.int 1, V.int (n : Nat)] = [.int i, .int j] ∧ (-(2 ^ 62) ≤ i ∧ i < 2 ^ 62 ∧ -(2 ^ 62) ≤ j ∧ j < 2 ^ 62) ∧ LoopW (Itr i (j - i).toNat) g tb D σ H := by
  refine ⟨1, n, rfl, ⟨by omega, by omega, by omega, by omega⟩, for_range (fun i => Pv (i + 1)) p0 (fun i σ H hi p => ?_) fun σ H p => hd σ H ?_⟩
  · have z := ht (i + 1) σ H (by omega) (by omega) p
    rw [show (1 : Int) + (i : Nat) = ((i + 1 : Nat) : Int) by omega]
    exact z
  · have e : ((n : Int) - 1).toNat + 1 = n := by omega
    rw [e] at p
    exact p
theorem r_lcLo {K : PySem.W.Frag} {tl : TE} {g : TG} {tt : TT} {te : TE} {vs : List Nat} {σ : L2.St} {H : Hp} {Q : VK} (h : tl σ H fun x H1 => ∃ a, x = .ref a ∧ (∃ xs, SqL K H1 a xs) ∧ ∀ D, H1 D = none → ∃ W : Nat → Nat → Hp → Prop, (∃ m, W 0 m (upd H1 D (.lst []))) ∧ ∀ i m H, W i m H →
  ((Itl K a).stop i H ∧ Q (.ref D) H) ∨ ((Itl K a).go i H ∧ ∃ Nx : Hp → Prop, (∀ H', Nx H' → ∃ m', m' < m ∧ W (i + 1) m' H') ∧ ∀ x H', (Itl K a).yld i H x H' → g x (wipe σ vs) H' fun σ2 H2 => wipe σ2 vs = wipe σ vs ∧ tt σ2 H2 fun b H3 =>
    if b = true then te σ2 H3 fun y H4 => ∃ acc, H4 D = some (.lst acc) ∧ acc.length < sizeLine ∧ Nx (upd H4 D (.lst (acc ++ [y]))) else Nx H3)) : tLc (iList K tl) g tt te vs σ H Q := h
theorem l_lcL {K : PySem.W.Frag} {a : Addr} {xs : List V} {g : TG} {tt : TT} {te : TE} {vs : List Nat} {σ : L2.St} {H1 : Hp} {Qd : Addr → Hp → Prop} (hs0 : SqL K H1 a xs) (Pv : Addr → Nat → Hp → Prop) (h0 : ∀ D, H1 D = none → Pv D 0 (upd H1 D (.lst []))) (hl : ∀ D i H, Pv D i H → SqL K H a xs)
    (hs : ∀ D (i : Nat) x H, H1 D = none → xs[i]? = some x → Pv D i H → g x (wipe σ vs) H fun σ2 H2 => wipe σ2 vs = wipe σ vs ∧ tt σ2 H2 fun b H3 =>
      if b = true then te σ2 H3 fun y H4 => ∃ acc, H4 D = some (.lst acc) ∧ acc.length < sizeLine ∧ Pv D (i + 1) (upd H4 D (.lst (acc ++ [y]))) else Pv D (i + 1) H3) (hd : ∀ D H, H1 D = none → Pv D xs.length H → Qd D H) :
    ∃ b, V.ref a = .ref b ∧ (∃ xs, SqL K H1 b xs) ∧ ∀ D, H1 D = none → ∃ W : Nat → Nat → Hp → Prop, (∃ m, W 0 m (upd H1 D (.lst []))) ∧ ∀ i m H, W i m H →
  ((Itl K b).stop i H ∧ Qd D H) ∨ ((Itl K b).go i H ∧ ∃ Nx : Hp → Prop, (∀ H', Nx H' → ∃ m', m' < m ∧ W (i + 1) m' H') ∧ ∀ x H', (Itl K b).yld i H x H' → g x (wipe σ vs) H' fun σ2 H2 => wipe σ2 vs = wipe σ vs ∧ tt σ2 H2 fun b H3 =>
    if b = true then te σ2 H3 fun y H4 => ∃ acc, H4 D = some (.lst acc) ∧ acc.length < sizeLine ∧ Nx (upd H4 D (.lst (acc ++ [y]))) else Nx H3) :=
  ⟨a, rfl, ⟨xs, hs0⟩, fun D hD => lc_list (Pv D) (h0 D hD) (fun i H _ p => hl D i H p) (fun i x H hx p => hs D i x H hD hx p) fun H p => hd D H hD p⟩
/-- a test whose outcome does not matter -/
theorem any_test {tt : TT} {σ : L2.St} {H : Hp} {QB : Bool → Hp → Prop} {S : Bool → Hp → Prop} (h : ∀ QB : Bool → Hp → Prop, (∀ c H1, S c H1 → QB c H1) → tt σ H QB) (k : ∀ c H1, S c H1 → QB c H1) : tt σ H QB := h QB k
theorem any_val {te : TE} {σ : L2.St} {H : Hp} {Q : VK} {S : V → Hp → Prop} (h : ∀ Q : VK, (∀ v H1, S v H1 → Q v H1) → te σ H Q) (k : ∀ v H1, S v H1 → Q v H1) : te σ H Q := h Q k
/-! ### bits -/
theorem or_val (x b y : Nat) : Builtin.bitOr (Builtin.bitOr (x : Int) (1 * 2 ^ ((b : Int)).toNat)) (y : Int) = ((x ||| 1 <<< b ||| y : Nat) : Int) := by
  have e : (1 * 2 ^ ((b : Int)).toNat : Int) = ((1 <<< b : Nat) : Int) := by
    rw [Int.toNat_natCast, Nat.one_shiftLeft]
    push_cast
    omega
  have e1 : Builtin.bitOr (x : Int) ((1 <<< b : Nat) : Int) = ((x ||| 1 <<< b : Nat) : Int) := by
    rw [Bits.bitOr_pp (Int.natCast_nonneg _) (Int.natCast_nonneg _), Int.toNat_natCast, Int.toNat_natCast]
  rw [e, e1, Bits.bitOr_pp (Int.natCast_nonneg _) (Int.natCast_nonneg _), Int.toNat_natCast, Int.toNat_natCast]
theorem bit_val (x k : Nat) : decide (V.int (Builtin.bitAnd ((x : Int) / 2 ^ ((k : Int)).toNat) 1) = V.int 1) = x.testBit k := by
  have e : Builtin.bitAnd ((x : Int) / 2 ^ ((k : Int)).toNat) 1 = (x : Int) / 2 ^ k % 2 := by
    have z := Bits.bit_at (x := (x : Int)) k
    have hp : (0 : Int) ≤ 2 ^ k := Int.pow_nonneg (by decide)
    rw [Int.fdiv_eq_ediv_of_nonneg _ hp] at z
    rw [Int.toNat_natCast]
    exact z
  rw [e, Bool.eq_iff_iff, decide_eq_true_iff, Nat.testBit_eq_decide_div_mod_eq, decide_eq_true_iff]
  have e2 : (x : Int) / 2 ^ k % 2 = ((x / 2 ^ k % 2 : Nat) : Int) := by push_cast; rfl
  rw [e2]
  constructor
  · intro h
    have := V.int.inj h
    omega
  · intro h
    rw [h]
    rfl
/-! ### the box of the draws: a number and a list of heaps -/
def M31 : Int := 2147483629
structure Bx (H : Hp) (b h : Addr) : Prop where
  ne : b ≠ h
  ex : ∃ (z : Int) (ns : List Int), H b = some (.lst [.int z, .ref h]) ∧ 0 ≤ z ∧ z < M31 ∧ H h = some (.lst (ns.map V.int)) ∧ ns.length ≤ 63
structure Dr2 (b h : Addr) (H H' : Hp) : Prop where
  hh : ∀ x o, x ≠ b → x ≠ h → H x = some o → H' x = some o
  st : Bx H' b h
abbrev A2 (b h : Addr) : Addr → Prop := fun x => x = b ∨ x = h
structure W2 (b h : Addr) (G H : Hp) : Prop where
  g : Ex G H
  nb : G b = none
  nh : G h = none
  st : Bx H b h
section
variable {A : Addr → Prop} {b h p : Addr} {G H G1 H1 H2 : Hp} {o : HO}
theorem Bx.gb (s : Bx H b h) : ∃ o, H b = some o := by
  obtain ⟨_, z, ns, h1, _⟩ := s
  exact ⟨_, h1⟩
theorem Bx.gh (s : Bx H b h) : ∃ o, H h = some o := by
  obtain ⟨_, z, ns, _, _, _, h1, _⟩ := s
  exact ⟨_, h1⟩
theorem Bx.up (s : Bx H b h) (e : Ex H H1) : Bx H1 b h := by
  obtain ⟨n, z, ns, h1, h2, h3, h4, h5⟩ := s
  exact ⟨n, z, ns, e _ _ h1, h2, h3, e _ _ h4, h5⟩
theorem Bx.nb (s : Bx H b h) (hp : H p = none) : p ≠ b := fun z => by
  obtain ⟨o, e⟩ := s.gb
  rw [← z, hp] at e
  cases e
theorem Bx.nh (s : Bx H b h) (hp : H p = none) : p ≠ h := fun z => by
  obtain ⟨o, e⟩ := s.gh
  rw [← z, hp] at e
  cases e
theorem Bx.put (s : Bx H b h) (h1 : p ≠ b) (h2 : p ≠ h) : Bx (upd H p o) b h := by
  obtain ⟨n, z, ns, e1, e2, e3, e4, e5⟩ := s
  exact ⟨n, z, ns, by rw [upd_ne (Ne.symm h1)]; exact e1, e2, e3, by rw [upd_ne (Ne.symm h2)]; exact e4, e5⟩
theorem Bx.na (s : Bx H b h) (hp : H p = none) : ¬ A2 b h p := fun z => z.elim (s.nb hp) (s.nh hp)
theorem Dr2.refl (s : Bx H b h) : Dr2 b h H H := ⟨fun _ _ _ _ e => e, s⟩
theorem Dr2.trans (x : Dr2 b h H H1) (y : Dr2 b h H1 H2) : Dr2 b h H H2 := ⟨fun u o n m e => y.hh u o n m (x.hh u o n m e), y.st⟩
theorem Dr2.ex (s : Bx H b h) (e : Ex H H1) : Dr2 b h H H1 := ⟨fun u o _ _ q => e u o q, s.up e⟩
theorem Dr2.then (x : Dr2 b h H H1) (e : Ex H1 H2) : Dr2 b h H H2 := x.trans (.ex x.st e)
theorem Dr2.new (x : Dr2 b h H H1) (hp : H1 p = none) : Dr2 b h H (upd H1 p o) := x.then (Same.new (Same.refl H1) hp)
theorem Dr2.mut (x : Dr2 b h H H1) (hp : H p = none) (h1 : p ≠ b) (h2 : p ≠ h) : Dr2 b h H (upd H1 p o) :=
  ⟨fun u q n m e => by rw [upd_ne (ne_of_none e hp)]; exact x.hh u q n m e, x.st.put h1 h2⟩
theorem Dr2.fresh (x : Dr2 b h H H1) (hp : H1 p = none) : H p = none := by
  cases e : H p with
  | none => rfl
  | some o =>
    rw [x.hh p o (x.st.nb hp) (x.st.nh hp) e] at hp
    cases hp
theorem Dr2.gr (g : Ex G H) (nb : G b = none) (nh : G h = none) (s : Bx H b h) (d : Dr2 b h H H1) : Gr (A2 b h) G H G H1 where
  gg := Same.refl G
  gh := fun u x e => d.hh u x (ne_of_none e nb) (ne_of_none e nh) (g u x e)
  hh := fun u x z e => d.hh u x (fun q => z (.inl q)) (fun q => z (.inr q)) e
  th := fun u x e => by
    by_cases h1 : u = b
    · rw [h1]
      exact d.st.gb
    by_cases h2 : u = h
    · rw [h2]
      exact d.st.gh
    exact ⟨x, d.hh u x h1 h2 e⟩
  nw := fun u x e z => z
theorem W2.nb1 (x : W2 b h G H) (t : Gr A G H G1 H1) : G1 b = none := by
  obtain ⟨o, e⟩ := x.st.gb
  exact t.nw b _ e x.nb
theorem W2.nh1 (x : W2 b h G H) (t : Gr A G H G1 H1) : G1 h = none := by
  obtain ⟨o, e⟩ := x.st.gh
  exact t.nw h _ e x.nh
theorem W2.step (x : W2 b h G H) (t : Gr (A2 b h) G H G1 H1) (s : Bx H1 b h) : W2 b h G1 H1 := ⟨t.gh, x.nb1 t, x.nh1 t, s⟩
theorem W2.pure (x : W2 b h G H) (t : Gr A0 G H G1 H1) : W2 b h G1 H1 := ⟨t.gh, x.nb1 t, x.nh1 t, x.st.up t.same⟩
theorem W2.ex (x : W2 b h G H) (e : Ex H H1) : W2 b h G H1 := ⟨x.g.trans e, x.nb, x.nh, x.st.up e⟩
theorem W2.gdr (x : W2 b h G H) (d : Dr2 b h H H1) : Gr (A2 b h) G H G H1 := Dr2.gr x.g x.nb x.nh x.st d
theorem W2.dr (x : W2 b h G H) (d : Dr2 b h H H1) : W2 b h G H1 := x.step (x.gdr d) d.st
end
def spPick : Sp := fun vs H Q _ => ∃ (b h : Addr) (n : Int), vs = [.ref b, .int n] ∧ Bx H b h ∧ 0 < n ∧ n ≤ 1000 ∧ ∀ (d : Int) H', 0 ≤ d → d < n → Dr2 b h H H' → Q (.int d) H'
def spDraws (K : PySem.W.Frag) : Sp := fun vs H Q _ => ∃ (s : Addr) (ns : List Int), vs = [.ref s] ∧ SqL K H s (ns.map V.int) ∧ ns.length ≤ 63 ∧ ∀ b h H', Ex H H' → H b = none → H h = none → Bx H' b h → Q (.ref b) H'
def spSay : Sp := fun vs H Q _ => ∃ (b h : Addr) (n : Int), vs = [.ref b, .int n] ∧ Bx H b h ∧ 0 < n ∧ n ≤ 100 ∧ ∀ (t : Str) H', 0 < t.length → (t.length : Int) ≤ n → Dr2 b h H H' → Q (.str t) H'
theorem nat31 {z : Int} (h0 : 0 ≤ z) (h : z < M31) : z.natAbs < 2 ^ 31 := by
  unfold M31 at h
  have e : (2 : Nat) ^ 31 = 2147483648 := by decide
  omega
theorem mix31 (e : Int) : 0 ≤ e % M31 ∧ e % M31 < M31 := ⟨Int.emod_nonneg _ (by decide), Int.emod_lt_of_pos _ (by decide)⟩
/-! ### signs -/
def Tk (H H' : Hp) : Prop := ∀ p xs, H p = some (.tup xs) → H' p = some (.tup xs)
/-- a tuple, of the heap or of the written part -/
def KT (K : PySem.W.Frag) (a : Addr) (xs : List V) : Prop := ∃ (o : Obj) (its : Array Value) (n : Nat), K.lookup a = some o ∧ o.cls = .type "tuple" ∧ o.data = .seq its n ∧ its.size ≤ sizeLine ∧ Vals xs its.toList
def Tu (K : PySem.W.Frag) (H : Hp) (a : Addr) (xs : List V) : Prop := H a = some (.tup xs) ∨ KT K a xs
theorem Tu.sq {K : PySem.W.Frag} {H : Hp} {a : Addr} {xs : List V} (h : Tu K H a xs) : SqT K H a xs := h.elim (fun z => sqT z) fun z => .inr z
theorem Tu.tk {K : PySem.W.Frag} {H H' : Hp} {a : Addr} {xs : List V} (t : Tk H H') (h : Tu K H a xs) : Tu K H' a xs := h.imp (fun z => t _ _ z) id
theorem Tu.up {K : PySem.W.Frag} {H H' : Hp} {a : Addr} {xs : List V} (e : Ex H H') (h : Tu K H a xs) : Tu K H' a xs := h.imp (fun z => e _ _ z) id
/-- a sign's two numbers; only signs of the border may be of the written part -/
def Ts (K : PySem.W.Frag) (H : Hp) (a : Addr) (x : Tl.Sg) : Prop := H a = some (.tup [.int (x.1 : Nat), .int (x.2 : Nat)]) ∨ (x.1 = 0 ∧ KT K a [.int (x.1 : Nat), .int (x.2 : Nat)])
theorem Ts.sq {K : PySem.W.Frag} {H : Hp} {a : Addr} {x : Tl.Sg} (h : Ts K H a x) : SqT K H a [.int (x.1 : Nat), .int (x.2 : Nat)] := h.elim (fun z => sqT z) fun z => .inr z.2
theorem Ts.tu {K : PySem.W.Frag} {H : Hp} {a : Addr} {x : Tl.Sg} (h : Ts K H a x) : Tu K H a [.int (x.1 : Nat), .int (x.2 : Nat)] := h.elim (fun z => .inl z) fun z => .inr z.2
theorem Ts.tk {K : PySem.W.Frag} {H H' : Hp} {a : Addr} {x : Tl.Sg} (t : Tk H H') (h : Ts K H a x) : Ts K H' a x := h.imp (fun z => t _ _ z) id
theorem Ts.up {K : PySem.W.Frag} {H H' : Hp} {a : Addr} {x : Tl.Sg} (e : Ex H H') (h : Ts K H a x) : Ts K H' a x := h.imp (fun z => e _ _ z) id
theorem Ts.own {K : PySem.W.Frag} {H : Hp} {a : Addr} {x : Tl.Sg} (h : Ts K H a x) (h0 : 0 < x.1) : H a = some (.tup [.int (x.1 : Nat), .int (x.2 : Nat)]) := h.elim id fun z => absurd z.1 (by omega)
def SgV (K : PySem.W.Frag) (G : Hp) (v : V) (x : Tl.Sg) : Prop := ∃ p, v = .ref p ∧ Ts K G p x
theorem SgV.up {K : PySem.W.Frag} {G G' : Hp} {v : V} {x : Tl.Sg} (e : Ex G G') (h : SgV K G v x) : SgV K G' v x := h.imp fun _ z => ⟨z.1, z.2.up e⟩
abbrev sgD (x : Tl.Sg) : PyData := .tuple [.int (x.1 : Nat), .int (x.2 : Nat)]
theorem SgV.dp {K : PySem.W.Frag} {G : Hp} {v : V} {x : Tl.Sg} (h : SgV K G v x) : Dp K G v (sgD x) := by
  obtain ⟨p, rfl, hp⟩ := h
  exact .tup hp.sq (.cons (.int _) (.cons (.int _) .nil))
theorem sg_shaped (x : Tl.Sg) : SeqAt.shaped (sgD x) = true := by
  rfl
theorem sg_eqv (x y : Tl.Sg) : PyData.eqv (sgD x) (sgD y) = decide (x = y) := by
  obtain ⟨a, b⟩ := x
  obtain ⟨c, d⟩ := y
  show (PyData.eqv (.int a) (.int c) && (PyData.eqv (.int b) (.int d) && true)) = _
  show (((a : Int) == c) && (((b : Int) == d) && true)) = _
  rw [Bool.eq_iff_iff]
  simp
  omega
theorem r_eqSg {K : PySem.W.Frag} {H : Hp} {Q : VK} {v w : V} {x y : Tl.Sg} (h1 : SgV K H v x) (h2 : SgV K H w y) (q : Q (.bl (decide (x = y))) H) : rEqU K v w H Q :=
  .inr ⟨_, _, h1.dp, h2.dp, sg_shaped x, sg_shaped y, by rw [sg_eqv]; exact q⟩
/-! ### two lists side by side -/
inductive P2 {α β : Type} (R : α → β → Prop) : List α → List β → Prop where
  | nil : P2 R [] []
  | cons {a : α} {b : β} {l : List α} {m : List β} (h : R a b) (t : P2 R l m) : P2 R (a :: l) (b :: m)
section
variable {α β : Type} {R S : α → β → Prop} {l l' : List α} {m m' : List β}
theorem P2.len (h : P2 R l m) : l.length = m.length := by
  induction h with
  | nil => rfl
  | cons h t ih => rw [List.length_cons, List.length_cons, ih]
theorem P2.get (h : P2 R l m) : ∀ {i : Nat} {a : α}, l[i]? = some a → ∃ b, m[i]? = some b ∧ R a b := by
  induction h with
  | nil => intro i a e; simp at e
  | @cons a b l m h t ih =>
    intro i x e
    cases i with
    | zero => exact ⟨b, rfl, by simp at e; exact e ▸ h⟩
    | succ i =>
      simp at e
      simpa using ih e
theorem P2.get' (h : P2 R l m) : ∀ {i : Nat} {b : β}, m[i]? = some b → ∃ a, l[i]? = some a ∧ R a b := by
  induction h with
  | nil => intro i a e; simp at e
  | @cons a b l m h t ih =>
    intro i x e
    cases i with
    | zero => exact ⟨a, rfl, by simp at e; exact e ▸ h⟩
    | succ i =>
      simp at e
      simpa using ih e
theorem P2.imp (h : P2 R l m) (k : ∀ a b, R a b → S a b) : P2 S l m := by
  induction h with
  | nil => exact .nil
  | cons h t ih => exact .cons (k _ _ h) ih
theorem P2.app (h : P2 R l m) (h' : P2 R l' m') : P2 R (l ++ l') (m ++ m') := by
  induction h with
  | nil => exact h'
  | cons h t ih => exact .cons h ih
theorem P2.snoc {a : α} {b : β} (h : P2 R l m) (k : R a b) : P2 R (l ++ [a]) (m ++ [b]) := h.app (.cons k .nil)
theorem P2.take (h : P2 R l m) : ∀ n, P2 R (l.take n) (m.take n) := by
  induction h with
  | nil => intro n; simp; exact .nil
  | cons h t ih =>
    intro n
    cases n with
    | zero => exact .nil
    | succ n => exact .cons h (ih n)
theorem P2.drop (h : P2 R l m) : ∀ n, P2 R (l.drop n) (m.drop n) := by
  induction h with
  | nil => intro n; simp; exact .nil
  | cons h t ih =>
    intro n
    cases n with
    | zero => exact .cons h t
    | succ n => exact ih n
end
theorem P2.join {α β γ : Type} {R : α → γ → Prop} {S : β → γ → Prop} {U : α → β → Prop} {l : List α} {m : List β} {n : List γ} (h : P2 R l n) (k : ∀ a b c, R a c → S b c → U a b) (g : P2 S m n) : P2 U l m := by
  induction h generalizing m with
  | nil => cases g; exact .nil
  | cons h t ih => cases g with
    | cons h' t' => exact .cons (k _ _ _ h h') (ih t')
/-- a list of signs -/
abbrev SgL (K : PySem.W.Frag) (G : Hp) : List V → List Tl.Sg → Prop := P2 (SgV K G)
theorem SgL.up {K : PySem.W.Frag} {G G' : Hp} {l : List V} {m : List Tl.Sg} (e : Ex G G') (h : SgL K G l m) : SgL K G' l m := h.imp fun _ _ z => z.up e
theorem SgL.dps {K : PySem.W.Frag} {G : Hp} {l : List V} {m : List Tl.Sg} (h : SgL K G l m) : DpAll K G l (m.map sgD) := by
  induction h with
  | nil => exact .nil
  | cons h t ih => exact .cons h.dp ih
theorem sgs_shaped (m : List Tl.Sg) : SeqAt.shaped (.list (m.map sgD)) = true := by
  have key : PyData.canLayAll0 (m.map sgD) = true ∧ PyData.depthAll (m.map sgD) ≤ 2 := by
    induction m with
    | nil => exact ⟨rfl, by decide⟩
    | cons x r ih =>
      refine ⟨?_, ?_⟩
      · show ((sgD x).canLay0 && PyData.canLayAll0 (r.map sgD)) = true
        rw [ih.1]
        rfl
      · show max (sgD x).depth (PyData.depthAll (r.map sgD)) ≤ 2
        have e : (sgD x).depth ≤ 2 := by simp [sgD, PyData.depth, PyData.depthAll]
        omega
  show (PyData.canLayAll0 (m.map sgD) && decide (_ ≤ 64)) = true
  rw [key.1]
  have e : (PyData.list (m.map sgD)).depth = PyData.depthAll (m.map sgD) + 1 := by first | rfl | exact Nat.add_comm _ _
  show decide (_ ≤ 64) = true
  rw [decide_eq_true_iff, e]
  omega
/-- l.index(x), l a list of signs -/
theorem r_indexSg {K : PySem.W.Frag} {H : Hp} {Q : VK} {a : Addr} {xs : List V} {v : V} {m : List Tl.Sg} {x : Tl.Sg} {j : Nat} (hl : SqL K H a xs) (hm : SgL K H xs m) (hv : SgV K H v x) (hj : m[j]? = some x) (hno : ∀ i, i < j → m[i]? ≠ some x) (q : Q (.int (j : Nat)) H) :
    rIndexD K (.ref a) [v] H Q := by
  refine ⟨a, v, sgD x, m.map sgD, j, sgD x, rfl, rfl, .lst hl hm.dps, hv.dp, sgs_shaped m, sg_shaped x, by rw [List.getElem?_map, hj]; rfl, by rw [sg_eqv]; simp, fun i z hi hz => ?_, q⟩
  rw [List.getElem?_map] at hz
  obtain ⟨y, hy, rfl⟩ := Option.map_eq_some_iff.mp hz
  rw [sg_eqv]
  refine decide_eq_false fun e => hno i hi ?_
  rw [hy, e]
end Dk

/-! immutable data: kept as long as tuples are kept -/
namespace Dk
open PySem PySem.Spec PyProof.Rows L2
section
variable {H H' H1 H2 : Hp} {b h p l : Addr} {xs ys : List V} {o : HO}
theorem Tk.refl (H : Hp) : Tk H H := fun _ _ e => e
theorem Tk.trans (x : Tk H H1) (y : Tk H1 H2) : Tk H H2 := fun p xs e => y p xs (x p xs e)
theorem Tk.ex (e : Ex H H') : Tk H H' := fun p xs h => e _ _ h
theorem Tk.put (e : H l = some (.lst xs)) : Tk H (upd H l o) := fun p ys h => by
  have n : p ≠ l := fun z => by rw [z, e] at h; cases h
  rw [upd_ne n]
  exact h
theorem Tk.new (e : H p = none) : Tk H (upd H p o) := .ex (Same.new (Same.refl H) e)
theorem Bx.tk (s : Bx H b h) (d : Dr2 b h H H') : Tk H H' := fun p xs e => by
  obtain ⟨_, z, ns, h1, _, _, h2, _⟩ := s
  exact d.hh p _ (fun q => by rw [q, h1] at e; cases e) (fun q => by rw [q, h2] at e; cases e) e
end
/-- a relation between values and data that tuples alone bear -/
class Imm {α : Type} (R : Hp → V → α → Prop) : Prop where
  tk : ∀ {H H' : Hp} {v : V} {x : α}, Tk H H' → R H v x → R H' v x
theorem imm {α : Type} {R : Hp → V → α → Prop} [i : Imm R] {H H' : Hp} {v : V} {x : α} (t : Tk H H') (r : R H v x) : R H' v x := i.tk t r
def IntV (H : Hp) (v : V) (n : Nat) : Prop := v = .int (n : Nat)
def StrV (H : Hp) (v : V) (z : Str) : Prop := v = .str z
def PairV (K : PySem.W.Frag) {α β : Type} (R : Hp → V → α → Prop) (S : Hp → V → β → Prop) (H : Hp) (v : V) (x : α × β) : Prop := ∃ (p : Addr) (a b : V), v = .ref p ∧ Tu K H p [a, b] ∧ R H a x.1 ∧ S H b x.2
def TupV (K : PySem.W.Frag) {α : Type} (R : Hp → V → α → Prop) (H : Hp) (v : V) (l : List α) : Prop := ∃ (p : Addr) (xs : List V), v = .ref p ∧ Tu K H p xs ∧ P2 (R H) xs l
instance : Imm IntV := ⟨fun _ h => h⟩
instance : Imm StrV := ⟨fun _ h => h⟩
instance {K : PySem.W.Frag} : Imm (SgV K) := ⟨fun t h => h.imp fun p z => ⟨z.1, z.2.tk t⟩⟩
instance {K : PySem.W.Frag} {α β : Type} {R : Hp → V → α → Prop} {S : Hp → V → β → Prop} [Imm R] [Imm S] : Imm (PairV K R S) := ⟨fun t h => by
  obtain ⟨p, a, b, h1, h2, h3, h4⟩ := h
  exact ⟨p, a, b, h1, h2.tk t, imm t h3, imm t h4⟩⟩
theorem p2_imm {α : Type} {R : Hp → V → α → Prop} [Imm R] {H H' : Hp} {xs : List V} {l : List α} (t : Tk H H') (h : P2 (R H) xs l) : P2 (R H') xs l := h.imp fun _ _ z => imm t z
instance {K : PySem.W.Frag} {α : Type} {R : Hp → V → α → Prop} [Imm R] : Imm (TupV K R) := ⟨fun t h => by
  obtain ⟨p, xs, h1, h2, h3⟩ := h
  exact ⟨p, xs, h1, h2.tk t, p2_imm t h3⟩⟩
section
variable {α β : Type} {R : Hp → V → α → Prop} {S : Hp → V → β → Prop} {K : PySem.W.Frag} {σ : L2.St} {H H' : Hp} {Q : VK} {v u a b : V} {x : α} {y : β} {l m : List α} {xs : List V} {N : L2.St → Hp → Prop}
theorem TupV.ref (h : TupV K R H v l) : ∃ p xs, v = .ref p ∧ Tu K H p xs ∧ P2 (R H) xs l := h
theorem r_ixTV {i : Nat} (h : TupV K R H v l) (hx : l[i]? = some x) (q : ∀ u, R H u x → Q u H) : rIx K v (.int (i : Nat)) H Q := by
  obtain ⟨p, xs, rfl, hp, hl⟩ := h
  obtain ⟨u, hu, hr⟩ := hl.get' hx
  exact r_ixT hp.sq (atI_nat hu) (q u hr)
theorem r_ixTm (h : TupV K R H v (l ++ [x])) (q : ∀ u, R H u x → Q u H) : rIx K v (.int (-1)) H Q := by
  obtain ⟨p, xs, rfl, hp, hl⟩ := h
  have hlen := hl.len
  obtain ⟨u, hu, hr⟩ := hl.get' (i := l.length) (b := x) (by simp)
  rw [List.length_append, List.length_singleton] at hlen
  have e : xs = xs.dropLast ++ [u] := by
    have hne : xs ≠ [] := fun z => by rw [z] at hlen; simp at hlen
    have h1 := (List.dropLast_concat_getLast hne).symm
    have h2 : xs.getLast hne = u := by
      have h3 : xs[xs.length - 1]? = some (xs.getLast hne) := by rw [← List.getLast?_eq_getElem?]; exact List.getLast?_eq_some_getLast hne
      rw [hlen, Nat.add_sub_cancel, hu] at h3
      exact (Option.some.inj h3).symm
    rw [h2] at h1
    exact h1
  rw [e] at hp
  exact r_ixT hp.sq (atI_last _ _) (q u hr)
theorem r_ixP0 {z : α × β} (h : PairV K R S H v z) (q : ∀ u, R H u z.1 → Q u H) : rIx K v (.int 0) H Q := by
  obtain ⟨p, a, b, rfl, hp, ha, hb⟩ := h
  exact r_ixT hp.sq (atI_nat (j := 0) rfl) (q a ha)
theorem r_ixP1 {z : α × β} (h : PairV K R S H v z) (q : ∀ u, S H u z.2 → Q u H) : rIx K v (.int 1) H Q := by
  obtain ⟨p, a, b, rfl, hp, ha, hb⟩ := h
  exact r_ixT hp.sq (atI_nat (j := 1) rfl) (q b hb)
theorem r_ixS0 {z : Tl.Sg} (h : SgV K H v z) (q : Q (.int (z.1 : Nat)) H) : rIx K v (.int 0) H Q := by
  obtain ⟨p, rfl, hp⟩ := h
  exact r_ixT hp.sq (atI_nat (j := 0) rfl) q
theorem r_ixS1 {z : Tl.Sg} (h : SgV K H v z) (q : Q (.int (z.2 : Nat)) H) : rIx K v (.int 1) H Q := by
  obtain ⟨p, rfl, hp⟩ := h
  exact r_ixT hp.sq (atI_nat (j := 1) rfl) q
theorem r_lenTV (h : TupV K R H v l) (q : Q (.int (l.length : Nat)) H) : rLenU K [v] H Q := by
  obtain ⟨p, xs, rfl, hp, hl⟩ := h
  refine r_lenT hp.sq ?_
  rw [hl.len]
  exact q
theorem r_gP {t : TGs} {z : α × β} (h : PairV K R S H v z) (k : ∀ a b, R H a z.1 → S H b z.2 → t [a, b] σ H N) : gTup K 2 t v σ H N := by
  obtain ⟨p, a, b, rfl, hp, ha, hb⟩ := h
  exact r_gtup hp.sq rfl (k a b ha hb)
theorem r_mkP [Imm R] [Imm S] (ha : R H a x) (hb : S H b y) (q : ∀ p H', H p = none → Ex H H' → PairV K R S H' (.ref p) (x, y) → Q (.ref p) H') : [a, b].length ≤ sizeLine ∧ ∀ p, H p = none → Q (.ref p) (upd H p (.tup [a, b])) :=
  r_small nsz fun p hp => q p _ hp (Same.new (Same.refl H) hp) ⟨p, a, b, rfl, .inl upd_same, imm (.new hp) ha, imm (.new hp) hb⟩
theorem r_mkS {i j : Nat} (q : ∀ p H', H p = none → Ex H H' → SgV K H' (.ref p) (i, j) → Q (.ref p) H') : [V.int (i : Nat), V.int (j : Nat)].length ≤ sizeLine ∧ ∀ p, H p = none → Q (.ref p) (upd H p (.tup [V.int (i : Nat), V.int (j : Nat)])) :=
  r_small nsz fun p hp => q p _ hp (Same.new (Same.refl H) hp) ⟨p, rfl, .inl upd_same⟩
theorem r_mkT [Imm R] (h : P2 (R H) xs l) (hl : l.length ≤ 1000) (q : ∀ p H', H p = none → Ex H H' → TupV K R H' (.ref p) l → Q (.ref p) H') : xs.length ≤ sizeLine ∧ ∀ p, H p = none → Q (.ref p) (upd H p (.tup xs)) :=
  r_small (by rw [h.len]; exact hl) fun p hp => q p _ hp (Same.new (Same.refl H) hp) ⟨p, xs, rfl, .inl upd_same, p2_imm (.new hp) h⟩
theorem r_catTV [Imm R] (h1 : TupV K R H v l) (h2 : TupV K R H u m) (hz : l.length + m.length ≤ 1000) (q : ∀ w H', Ex H H' → TupV K R H' w (l ++ m) → Q w H') : rAddU K v u H Q := by
  obtain ⟨p, xs, rfl, hp, hl⟩ := h1
  obtain ⟨p2, ys, rfl, hp2, hm⟩ := h2
  refine .inr (.inr (.inr ⟨p, p2, xs, ys, rfl, rfl, hp.sq, hp2.sq, Nat.le_of_lt (small1000 (by rw [hl.len, hm.len]; exact hz)), fun z => ?_, fun _ z => ?_, fun _ _ p3 hp3 => ?_⟩))
  · subst z
    cases hl
    exact q _ H (Same.refl H) ⟨p2, ys, rfl, hp2, hm⟩
  · subst z
    cases hm
    rw [List.append_nil] at q
    exact q _ H (Same.refl H) ⟨p, xs, rfl, hp, hl⟩
  · exact q _ _ (Same.new (Same.refl H) hp3) ⟨p3, _, rfl, .inl upd_same, p2_imm (.new hp3) (hl.app hm)⟩
theorem P2.all {l' : List V} {m' : List α} {P : V → α → Prop} (h : P2 P l' m') (lo hi : Option Int) : P2 P (cutV l' lo hi) ((m'.drop (HT.sIx m'.length 0 lo)).take (HT.sIx m'.length m'.length hi - HT.sIx m'.length 0 lo)) := by
  unfold cutV
  rw [h.len]
  exact (h.drop _).take _
theorem r_slTV [Imm R] {lo hi : Option Int} (h : TupV K R H v l) (q : ∀ w H', Ex H H' → TupV K R H' w ((l.drop (HT.sIx l.length 0 lo)).take (HT.sIx l.length l.length hi - HT.sIx l.length 0 lo)) → Q w H') : rSlU K v lo hi H Q := by
  obtain ⟨p, xs, rfl, hp, hl⟩ := h
  refine .inr (.inr ⟨p, xs, rfl, hp.sq, fun z => ?_, fun _ p2 hp2 => ?_⟩)
  · have e : ((l.drop (HT.sIx l.length 0 lo)).take (HT.sIx l.length l.length hi - HT.sIx l.length 0 lo)) = l := by
      rw [hl.len] at z
      rw [z.1, z.2, List.drop_zero, Nat.sub_zero, List.take_length]
    rw [e] at q
    exact q _ H (Same.refl H) ⟨p, xs, rfl, hp, hl⟩
  · exact q _ _ (Same.new (Same.refl H) hp2) ⟨p2, _, rfl, .inl upd_same, p2_imm (.new hp2) (hl.all lo hi)⟩
theorem cut_to {l : List α} {k : Nat} : (l.drop (HT.sIx l.length 0 none)).take (HT.sIx l.length l.length (some (k : Int)) - HT.sIx l.length 0 none) = l.take k := by
  rw [HT.sIx_nat, HT.sIx_none, List.drop_zero, Nat.sub_zero]
  by_cases h : k ≤ l.length
  · rw [Nat.min_eq_left h]
  · rw [Nat.min_eq_right (by omega), List.take_length, List.take_of_length_le (by omega)]
theorem cut_from {l : List α} {k : Nat} : (l.drop (HT.sIx l.length 0 (some (k : Int)))).take (HT.sIx l.length l.length none - HT.sIx l.length 0 (some (k : Int))) = l.drop k := by
  rw [HT.sIx_nat, HT.sIx_none]
  by_cases h : k ≤ l.length
  · rw [Nat.min_eq_left h, List.take_of_length_le (by rw [List.length_drop]; omega)]
  · rw [Nat.min_eq_right (by omega), Nat.sub_self, List.take_zero, List.drop_eq_nil_of_le (by omega)]
theorem r_slTo [Imm R] {k : Nat} (h : TupV K R H v l) (q : ∀ w H', Ex H H' → TupV K R H' w (l.take k) → Q w H') : rSlU K v none (some (k : Int)) H Q := r_slTV h (by rw [cut_to]; exact q)
theorem r_slFrom [Imm R] {k : Nat} (h : TupV K R H v l) (q : ∀ w H', Ex H H' → TupV K R H' w (l.drop k) → Q w H') : rSlU K v (some (k : Int)) none H Q := r_slTV h (by rw [cut_from]; exact q)
/-- tuple(list) -/
theorem r_tupLV [Imm R] {p : Addr} (hp : H p = some (.lst xs)) (h : P2 (R H) xs l) (q : ∀ p H', H p = none → Ex H H' → TupV K R H' (.ref p) l → Q (.ref p) H') : rTupU K [.ref p] H Q :=
  r_tupL (sqL hp) fun p2 hp2 => q p2 _ hp2 (Same.new (Same.refl H) hp2) ⟨p2, xs, rfl, .inl upd_same, p2_imm (.new hp2) h⟩
/-- an item of a list -/
theorem r_ixLV {p : Addr} {i : Nat} (hp : H p = some (.lst xs)) (h : P2 (R H) xs l) (hx : l[i]? = some x) (q : ∀ u, R H u x → Q u H) : rIx K (.ref p) (.int (i : Nat)) H Q := by
  obtain ⟨u, hu, hr⟩ := h.get' hx
  exact r_ixL (sqL hp) (atI_nat hu) (q u hr)
theorem r_ixLm {p : Addr} (hp : H p = some (.lst xs)) (h : P2 (R H) xs (l ++ [x])) (q : ∀ u, R H u x → Q u H) : rIx K (.ref p) (.int (-1)) H Q := by
  have hlen := h.len
  obtain ⟨u, hu, hr⟩ := h.get' (i := l.length) (b := x) (by simp)
  rw [List.length_append, List.length_singleton] at hlen
  have e : xs = xs.dropLast ++ [u] := by
    have hne : xs ≠ [] := fun z => by rw [z] at hlen; simp at hlen
    have h1 := (List.dropLast_concat_getLast hne).symm
    have h2 : xs.getLast hne = u := by
      have h3 : xs[xs.length - 1]? = some (xs.getLast hne) := by rw [← List.getLast?_eq_getElem?]; exact List.getLast?_eq_some_getLast hne
      rw [hlen, Nat.add_sub_cancel, hu] at h3
      exact (Option.some.inj h3).symm
    rw [h2] at h1
    exact h1
  rw [e] at hp
  exact r_ixL (sqL hp) (atI_last _ _) (q u hr)
end
/-! equality of pairs of signs -/
abbrev SpV (K : PySem.W.Frag) := PairV K (SgV K) (SgV K)
abbrev spD (x : Tl.Sg × Tl.Sg) : PyData := .tuple [sgD x.1, sgD x.2]
theorem SpV.dp {K : PySem.W.Frag} {G : Hp} {v : V} {x : Tl.Sg × Tl.Sg} (h : SpV K G v x) : Dp K G v (spD x) := by
  obtain ⟨p, a, b, rfl, hp, ha, hb⟩ := h
  exact .tup hp.sq (.cons ha.dp (.cons hb.dp .nil))
theorem sp_shaped (x : Tl.Sg × Tl.Sg) : SeqAt.shaped (spD x) = true := by rfl
theorem sp_eqv (x y : Tl.Sg × Tl.Sg) : PyData.eqv (spD x) (spD y) = decide (x = y) := by
  obtain ⟨a, b⟩ := x
  obtain ⟨c, d⟩ := y
  show (PyData.eqv (sgD a) (sgD c) && (PyData.eqv (sgD b) (sgD d) && true)) = _
  rw [sg_eqv, sg_eqv, Bool.and_true, Bool.eq_iff_iff]
  simp
theorem r_eqSp {K : PySem.W.Frag} {H : Hp} {Q : VK} {v w : V} {x y : Tl.Sg × Tl.Sg} (h1 : SpV K H v x) (h2 : SpV K H w y) (q : Q (.bl (decide (x = y))) H) : rEqU K v w H Q :=
  .inr ⟨_, _, h1.dp, h2.dp, sp_shaped x, sp_shaped y, by rw [sp_eqv]; exact q⟩
theorem r_neSp {K : PySem.W.Frag} {H : Hp} {Q : VK} {v w : V} {x y : Tl.Sg × Tl.Sg} (h1 : SpV K H v x) (h2 : SpV K H w y) (q : Q (.bl (!decide (x = y))) H) : rNeU K v w H Q :=
  .inr ⟨_, _, h1.dp, h2.dp, sp_shaped x, sp_shaped y, by rw [sp_eqv]; exact q⟩
theorem sps_shaped (m : List (Tl.Sg × Tl.Sg)) : SeqAt.shaped (.list (m.map spD)) = true := by
  have key : PyData.canLayAll0 (m.map spD) = true ∧ PyData.depthAll (m.map spD) ≤ 3 := by
    induction m with
    | nil => exact ⟨rfl, by decide⟩
    | cons x r ih =>
      refine ⟨?_, ?_⟩
      · show ((spD x).canLay0 && PyData.canLayAll0 (r.map spD)) = true
        rw [ih.1]
        rfl
      · show max (spD x).depth (PyData.depthAll (r.map spD)) ≤ 3
        have e : (spD x).depth ≤ 3 := by simp [spD, sgD, PyData.depth, PyData.depthAll]
        omega
  show (PyData.canLayAll0 (m.map spD) && decide (_ ≤ 64)) = true
  rw [key.1]
  have e : (PyData.list (m.map spD)).depth = PyData.depthAll (m.map spD) + 1 := by first | rfl | exact Nat.add_comm _ _
  show decide (_ ≤ 64) = true
  rw [decide_eq_true_iff, e]
  omega
theorem sps_dps {K : PySem.W.Frag} {H : Hp} {xs : List V} {m : List (Tl.Sg × Tl.Sg)} (h : P2 (SpV K H) xs m) : DpAll K H xs (m.map spD) := by
  induction h with
  | nil => exact .nil
  | cons h t ih => exact .cons (SpV.dp h) ih
/-- pair not in a list of pairs -/
theorem r_niSp {K : PySem.W.Frag} {H : Hp} {Q : VK} {v : V} {p : Addr} {xs : List V} {x : Tl.Sg × Tl.Sg} {m : List (Tl.Sg × Tl.Sg)} (h1 : SpV K H v x) (hp : H p = some (.lst xs)) (h2 : P2 (SpV K H) xs m) (q : Q (.bl (!decide (x ∈ m))) H) : rNotInD K v (.ref p) H Q := by
  exact ⟨_, _, h1.dp, .lst (sqL hp) (sps_dps h2), sp_shaped x, sps_shaped m, by
    have e : ((m.map spD).any fun z => PyData.eqv z (spD x)) = decide (x ∈ m) := by
      rw [List.any_map, Bool.eq_iff_iff, List.any_eq_true, decide_eq_true_iff]
      constructor
      · rintro ⟨y, hy, e⟩
        rw [Function.comp_apply, sp_eqv, decide_eq_true_iff] at e
        rw [← e]
        exact hy
      · intro h
        exact ⟨x, h, by rw [Function.comp_apply, sp_eqv]; exact decide_eq_true rfl⟩
    rw [e]
    exact q⟩
end Dk

/-! rules of our own, further -/
namespace Dk
open PySem PySem.Spec PyProof.Rows L2
/-! text * number -/
def rRepS : R2 := fun x y H Q => ∃ (z : Str) (n : Nat), x = .str z ∧ y = .int (n : Nat) ∧ z.length ≤ 100 ∧ n ≤ 8000 ∧ Q (.str (Txt.mul z n)) H
theorem op_repS {X : Cx} : OpR X (binaryOp .Mult) rRepS := by
  intro pins s σ H x y v u Q I rx ry h
  obtain ⟨z, n, rfl, rfl, hz, hn, q⟩ := h
  obtain ⟨t, rfl⟩ := rx
  obtain ⟨t', rfl⟩ := ry
  refine SB.mul ⟨?_, fun h1 h2 => ?_, fun h1 h2 => ?_⟩ fun t' k => ⟨.str (Txt.mul z n), H, I.tok _, ⟨_, rfl⟩, q⟩
  · simp
    omega
  · have e : (z.length : Int) * n ≤ 2 ^ 63 - 1 := by
      have : (z.length : Int) * n ≤ 100 * 8000 := Int.mul_le_mul (by omega) (by omega) (by omega) (by omega)
      omega
    have p : (0 : Int) < n := by omega
    have := (Int.le_ediv_iff_mul_le p).mpr e
    omega
  · have e : z.length * n ≤ 100 * 8000 := Nat.mul_le_mul hz hn
    rw [Int.toNat_natCast]
    show decide (z.length * n > sizeLine) = false
    rw [decide_eq_false_iff_not, sizeLine_eq]
    omega
theorem r_repS {H : Hp} {Q : VK} {z : Str} {n : Nat} (hz : z.length ≤ 100) (hn : n ≤ 8000) (q : Q (.str (Txt.mul z n)) H) : rRepS (.str z) (.int (n : Nat)) H Q := ⟨z, n, rfl, rfl, hz, hn, q⟩
theorem cs_mul (z : Str) (n : Nat) : cs (Txt.mul z n) = (List.replicate n (cs z)).flatten := by
  unfold Txt.mul
  by_cases h1 : (n : Int) < 1
  · have e : n = 0 := by omega
    subst e
    rw [if_pos h1]
    rfl
  · rw [if_neg h1]
    by_cases h2 : ((n : Int) == 1 || z.length == 0) = true
    · rw [if_pos h2]
      rw [Bool.or_eq_true, beq_iff_eq, beq_iff_eq] at h2
      rcases h2 with h2 | h2
      · have e : n = 1 := by omega
        subst e
        simp
      · have e : cs z = [] := List.length_eq_zero_iff.mp (by rw [cs_len]; exact h2)
        rw [e]
        simp
    · rw [if_neg h2, Int.toNat_natCast]
      have key : ∀ (m : Nat) (a : Array Nat), ((List.replicate m z.cps).foldl (fun x y => x ++ y) a).toList = a.toList ++ (List.replicate m (cs z)).flatten := by
        intro m
        induction m with
        | zero => intro a; simp
        | succ m ih =>
          intro a
          rw [List.replicate_succ, List.foldl_cons, ih, List.replicate_succ, List.flatten_cons, Array.toList_append, List.append_assoc]
      have q := key n #[]
      simpa using q
theorem len_mul (z : Str) (n : Nat) : (Txt.mul z n).length = n * z.length := by
  rw [← cs_len, cs_mul, List.length_flatten, List.map_replicate, List.sum_replicate_nat, cs_len]
/-! reversed(a tuple) -/
theorem r_forRvo {K : PySem.W.Frag} {te : TE} {g : TG} {tb : TS} {D : Ends} {σ : L2.St} {H : Hp} (h : te σ H fun v H1 => ∃ (a : Addr) (xs : List V), v = .ref a ∧ ((SqL K H1 a xs ∧ LoopW (Itv K a xs.length) g tb D σ H1) ∨ (SqT K H1 a xs ∧ LoopW (RT.ItvT K a xs.length) g tb D σ H1))) : tFor (RT.iRevA K te) g tb D σ H := h
theorem r_mkSi {K : PySem.W.Frag} {H : Hp} {Q : VK} {a b : Int} {i j : Nat} (ea : a = (i : Nat)) (eb : b = (j : Nat)) (q : ∀ p H', H p = none → Ex H H' → SgV K H' (.ref p) (i, j) → Q (.ref p) H') : [V.int a, V.int b].length ≤ sizeLine ∧ ∀ p, H p = none → Q (.ref p) (upd H p (.tup [V.int a, V.int b])) := by
  subst ea eb
  exact r_mkS q
section
variable {α β : Type} {R : Hp → V → α → Prop} {S : Hp → V → β → Prop} {H : Hp} {p : Addr} {u v : V} {x : α} {y : β} {l : List α} {xs : List V}
theorem nP (K : PySem.W.Frag) [Imm R] [Imm S] (hp : H p = none) (ha : R H u x) (hb : S H v y) : ∃ H', H' = upd H p (.tup [u, v]) ∧ Ex H H' ∧ PairV K R S H' (.ref p) (x, y) :=
  ⟨_, rfl, Same.new (Same.refl H) hp, p, u, v, rfl, .inl upd_same, imm (.new hp) ha, imm (.new hp) hb⟩
theorem nS (K : PySem.W.Frag) {a b : Int} {i j : Nat} (hp : H p = none) (ea : a = (i : Nat)) (eb : b = (j : Nat)) : ∃ H', H' = upd H p (.tup [V.int a, V.int b]) ∧ Ex H H' ∧ SgV K H' (.ref p) (i, j) := by
  subst ea eb
  exact ⟨_, rfl, Same.new (Same.refl H) hp, p, rfl, .inl upd_same⟩
theorem nT (K : PySem.W.Frag) [Imm R] (hp : H p = none) (h : P2 (R H) xs l) : ∃ H', H' = upd H p (.tup xs) ∧ Ex H H' ∧ TupV K R H' (.ref p) l :=
  ⟨_, rfl, Same.new (Same.refl H) hp, p, xs, rfl, .inl upd_same, p2_imm (.new hp) h⟩
theorem nL (o : HO) (hp : H p = none) : ∃ H', H' = upd H p o ∧ Ex H H' ∧ H' p = some o := ⟨_, rfl, Same.new (Same.refl H) hp, upd_same⟩
end
/-! within a comprehension -/
theorem k_eqU {X : Cx} {K : PySem.W.Frag} (h : X.K = K) (hu : X.A.units + 64 < cLine) : OpR X (compareOp .Eq) (rEqU K) := h ▸ op_eqU hu
theorem k_neU {X : Cx} {K : PySem.W.Frag} (h : X.K = K) (hu : X.A.units + 64 < cLine) : OpR X (compareOp .NotEq) (rNeU K) := h ▸ op_neU hu
/-! ints in lists -/
section
variable {K : PySem.W.Frag} {H : Hp} {Q : VK} {p : Addr} {ns : List Int} {i : Int}
theorem flat_ints : (ns.map V.int).all flatV = true := by
  rw [List.all_map, List.all_eq_true]
  intro x _
  rfl
theorem inV_ints : inV (.int i) (ns.map V.int) = decide (i ∈ ns) := by
  unfold inV
  rw [List.any_map, Bool.eq_iff_iff, List.any_eq_true, decide_eq_true_iff]
  constructor
  · rintro ⟨y, hy, e⟩
    have z : y = i := by
      have := e
      simp [eqV] at this
      omega
    rw [← z]
    exact hy
  · intro h
    exact ⟨i, h, by simp [eqV]⟩
theorem r_inI (hp : SqL K H p (ns.map V.int)) (q : Q (.bl (decide (i ∈ ns))) H) : rInU K (.int i) (.ref p) H Q :=
  .inr ⟨p, _, rfl, .inl hp, rfl, flat_ints, by
    show Q (.bl (inV (.int i) (ns.map V.int))) H
    rw [inV_ints]
    exact q⟩
theorem dps_ints : DpAll K H (ns.map V.int) (ns.map PyData.int) := by
  induction ns with
  | nil => exact .nil
  | cons x r ih => exact .cons (.int _) ih
theorem ints_shaped : SeqAt.shaped (.list (ns.map PyData.int)) = true := by
  have key : PyData.canLayAll0 (ns.map PyData.int) = true ∧ PyData.depthAll (ns.map PyData.int) ≤ 2 := by
    induction ns with
    | nil => exact ⟨rfl, by decide⟩
    | cons x r ih =>
      refine ⟨?_, ?_⟩
      · show ((PyData.int x).canLay0 && PyData.canLayAll0 (r.map PyData.int)) = true
        rw [ih.1]
        rfl
      · show max (PyData.int x).depth (PyData.depthAll (r.map PyData.int)) ≤ 2
        have e : (PyData.int x).depth ≤ 2 := by simp [PyData.depth]
        omega
  show (PyData.canLayAll0 (ns.map PyData.int) && decide (_ ≤ 64)) = true
  rw [key.1]
  have e : (PyData.list (ns.map PyData.int)).depth = PyData.depthAll (ns.map PyData.int) + 1 := by first | rfl | exact Nat.add_comm _ _
  show decide (_ ≤ 64) = true
  rw [decide_eq_true_iff, e]
  omega
/-- l.index(i), l a list of ints -/
theorem r_indexI {j : Nat} (hp : SqL K H p (ns.map V.int)) (hj : ns[j]? = some i) (hno : ∀ m, m < j → ns[m]? ≠ some i) (q : Q (.int (j : Nat)) H) : rIndexD K (.ref p) [.int i] H Q := by
  refine ⟨p, .int i, .int i, ns.map PyData.int, j, .int i, rfl, rfl, .lst hp dps_ints, .int i, ints_shaped, rfl, by rw [List.getElem?_map, hj]; rfl, ?_, fun m z hm hz => ?_, q⟩
  · show ((i : Int) == i) = true
    exact beq_self_eq_true i
  · rw [List.getElem?_map] at hz
    obtain ⟨y, hy, rfl⟩ := Option.map_eq_some_iff.mp hz
    show ((y : Int) == i) = false
    rw [beq_eq_false_iff_ne]
    intro e
    exact hno m hm (by rw [hy, e])
end
end Dk

/-! min(a, b), max(a, b) of two tuples of numbers; sorted of two -/
namespace Dk
open PySem PySem.Spec PyProof.Rows L2 PySem.SeqAt PySem.W
section
variable {prog : Program} {w : World} {A : Around} {E : Value → Shared → Prop} {s : Shared}
theorem call_min_twoH {a b : Value} {Q : Value → Shared → Prop}
    (h : wpAny (model prog w) A.in1 (pyIter (.ref s.heap.objs.size)) (fun it s₂ => ∃ I fp wr G n P St H bt, it = .ref I ∧ WalksS prog w A.in1 I fp wr G n P St ∧ St 0 s₂ ∧ (∀ b ∈ fp, b < s₂.heap.objs.size) ∧ 0 < n ∧
      (∀ b o, H.get? b = some o → b ∉ wr) ∧ (∀ b o, H.get? b = some o → s₂.heap.get? b = some o) ∧ CmpIn prog w A.in1 .Lt H P bt ∧ ∀ v s', P (argBest bt (n - 1)) v → Moved wr G s₂ s' → Q v s') E
      { s with heap := s.heap.push { cls := .type "tuple", data := .seq #[a, b] } }) :
    wpAny (model prog w) A (call (.builtin "min") [a, b]) Q E s := by
  have hname : (toString "min" ++ toString ".loop" : String) = "min.loop" := by decide
  refine call_function_tree F.kind_min F.plain_min F.entry_min (F.args_min2 _ _) ?_
  show wpAny _ A.in1 (Builtin.Builtins.bindParams "min" ["key", "default"] 0 ⟨[], []⟩ >>= _) _ _ s
  refine wpAny_bind (wpAny_of_eq (show Builtin.Builtins.bindParams "min" ["key", "default"] 0 ⟨[], []⟩ = pure [none, none] from rfl) ?_)
  show wpAny _ A.in1 (newTuple [a, b] >>= _) _ _ s
  refine wpAny_bind (wpAny_newObj_type ?_)
  refine wpAny_bind (wpAny_mono h (fun it s₂ h₂ => ?_) fun _ _ e => e)
  obtain ⟨I, fp, wr, G, n, P, St, H, bt, rfl, W, hst, hfp, hn, hw, hkeep, hcmp, hQ⟩ := h₂
  refine wpAny_bind (wpAny_newObj_type ?_)
  have hSf : s₂.heap.objs.size ∉ fp := fun hm => Nat.lt_irrefl _ (hfp _ hm)
  rw [hname]
  refine wpAny_pure ⟨plainId_quiet F.plain_min_loop _, codeAny_min_loop_firstH W H hw bt hcmp s₂.heap.objs.size hSf (fresh_in hkeep) _ hn (fun b o e => Heap.get?_push_of_some _ (hkeep b o e)) (W.frame 0 s₂ _ s₂.toks hst (Nat.le_refl _) fun b _ o e => Heap.get?_push_of_some _ e) (Heap.get?_push_size _ rfl) fun v s' hP hm => ?_⟩
  exact hQ v s' hP (Moved.drop_new (tk := s₂.toks) hm (Nat.le_refl _))
theorem call_max_twoH {a b : Value} {Q : Value → Shared → Prop}
    (h : wpAny (model prog w) A.in1 (pyIter (.ref s.heap.objs.size)) (fun it s₂ => ∃ I fp wr G n P St H bt, it = .ref I ∧ WalksS prog w A.in1 I fp wr G n P St ∧ St 0 s₂ ∧ (∀ b ∈ fp, b < s₂.heap.objs.size) ∧ 0 < n ∧
      (∀ b o, H.get? b = some o → b ∉ wr) ∧ (∀ b o, H.get? b = some o → s₂.heap.get? b = some o) ∧ CmpIn prog w A.in1 .Gt H P bt ∧ ∀ v s', P (argBest bt (n - 1)) v → Moved wr G s₂ s' → Q v s') E
      { s with heap := s.heap.push { cls := .type "tuple", data := .seq #[a, b] } }) :
    wpAny (model prog w) A (call (.builtin "max") [a, b]) Q E s := by
  have hname : (toString "max" ++ toString ".loop" : String) = "max.loop" := by decide
  refine call_function_tree F.kind_max F.plain_max F.entry_max (F.args_max2 _ _) ?_
  show wpAny _ A.in1 (Builtin.Builtins.bindParams "max" ["key", "default"] 0 ⟨[], []⟩ >>= _) _ _ s
  refine wpAny_bind (wpAny_of_eq (show Builtin.Builtins.bindParams "max" ["key", "default"] 0 ⟨[], []⟩ = pure [none, none] from rfl) ?_)
  show wpAny _ A.in1 (newTuple [a, b] >>= _) _ _ s
  refine wpAny_bind (wpAny_newObj_type ?_)
  refine wpAny_bind (wpAny_mono h (fun it s₂ h₂ => ?_) fun _ _ e => e)
  obtain ⟨I, fp, wr, G, n, P, St, H, bt, rfl, W, hst, hfp, hn, hw, hkeep, hcmp, hQ⟩ := h₂
  refine wpAny_bind (wpAny_newObj_type ?_)
  have hSf : s₂.heap.objs.size ∉ fp := fun hm => Nat.lt_irrefl _ (hfp _ hm)
  rw [hname]
  refine wpAny_pure ⟨plainId_quiet F.plain_max_loop _, codeAny_max_loop_firstH W H hw bt hcmp s₂.heap.objs.size hSf (fresh_in hkeep) _ hn (fun b o e => Heap.get?_push_of_some _ (hkeep b o e)) (W.frame 0 s₂ _ s₂.toks hst (Nat.le_refl _) fun b _ o e => Heap.get?_push_of_some _ e) (Heap.get?_push_size _ rfl) fun v s' hP hm => ?_⟩
  exact hQ v s' hP (Moved.drop_new (tk := s₂.toks) hm (Nat.le_refl _))
theorem min_two_data {a b : Value} {x y : PyData} {as bs : List Addr} {Q : Value → Shared → Prop} (hh : A.handled = none) (ra : Reads s.heap a x as) (rb : Reads s.heap b y bs) (ha : PySem.W.AlikeAll [x, y]) (hu : A.units + 1 + PyData.depthAll [x, y] < cLine)
    (h : ∀ h' tk, (∀ c o, s.heap.get? c = some o → h'.get? c = some o) → Q (if dataLt y x = true then b else a) { s with heap := h', toks := tk }) :
    wpAny (model prog w) A (call (.builtin "min") [a, b]) Q E s := by
  have k0 : ∀ c o, s.heap.get? c = some o → (s.heap.push { cls := .type "tuple", data := .seq #[a, b] }).get? c = some o := fun c o e => Heap.get?_push_of_some _ e
  have hl : ({ s with heap := s.heap.push { cls := .type "tuple", data := .seq #[a, b] } } : Shared).heap.IsTuple s.heap.objs.size #[a, b] := ⟨_, Heap.get?_push_size _ rfl, rfl, 0, rfl⟩
  have hr : ReadsAll (s.heap.push { cls := .type "tuple", data := .seq #[a, b] }) (#[a, b] : Array Value).toList [x, y] _ := ReadsAll.cons (Reads.keeps k0 ra) (ReadsAll.cons (Reads.keeps k0 rb) ReadsAll.nil)
  refine call_min_twoH (iter_tupleW (s := { s with heap := s.heap.push { cls := .type "tuple", data := .seq #[a, b] } }) (A := A.in1) hh hl fun s₂ e W st hfp hw hk => ?_)
  refine ⟨_, _, _, _, _, _, _, (s.heap.push { cls := .type "tuple", data := .seq #[a, b] }), _, rfl, W, st, hfp, by simp, hw, hk, PySem.W.cmpIn_lt (s := { s with heap := s.heap.push { cls := .type "tuple", data := .seq #[a, b] } }) (A := A.in1) hr ha (by show A.units + 1 + _ < _; exact hu), fun v s' hP m => ?_⟩
  obtain ⟨h', tk, rfl, hk'⟩ := moved_old e rfl m
  have hv : v = if dataLt y x = true then b else a := by
    have hP' : (#[a, b] : Array Value)[if dataLt y x = true then 1 else 0]? = some v := hP
    by_cases c : dataLt y x = true
    · rw [if_pos c] at hP' ⊢
      exact (Option.some.inj hP').symm
    · rw [if_neg c] at hP' ⊢
      exact (Option.some.inj hP').symm
  rw [hv]
  exact h h' tk fun c o e => hk' c o (k0 c o e)
theorem max_two_data {a b : Value} {x y : PyData} {as bs : List Addr} {Q : Value → Shared → Prop} (hh : A.handled = none) (ra : Reads s.heap a x as) (rb : Reads s.heap b y bs) (ha : PySem.W.AlikeAll [x, y]) (hu : A.units + 1 + PyData.depthAll [x, y] < cLine)
    (h : ∀ h' tk, (∀ c o, s.heap.get? c = some o → h'.get? c = some o) → Q (if dataLt x y = true then b else a) { s with heap := h', toks := tk }) :
    wpAny (model prog w) A (call (.builtin "max") [a, b]) Q E s := by
  have k0 : ∀ c o, s.heap.get? c = some o → (s.heap.push { cls := .type "tuple", data := .seq #[a, b] }).get? c = some o := fun c o e => Heap.get?_push_of_some _ e
  have hl : ({ s with heap := s.heap.push { cls := .type "tuple", data := .seq #[a, b] } } : Shared).heap.IsTuple s.heap.objs.size #[a, b] := ⟨_, Heap.get?_push_size _ rfl, rfl, 0, rfl⟩
  have hr : ReadsAll (s.heap.push { cls := .type "tuple", data := .seq #[a, b] }) (#[a, b] : Array Value).toList [x, y] _ := ReadsAll.cons (Reads.keeps k0 ra) (ReadsAll.cons (Reads.keeps k0 rb) ReadsAll.nil)
  refine call_max_twoH (iter_tupleW (s := { s with heap := s.heap.push { cls := .type "tuple", data := .seq #[a, b] } }) (A := A.in1) hh hl fun s₂ e W st hfp hw hk => ?_)
  refine ⟨_, _, _, _, _, _, _, (s.heap.push { cls := .type "tuple", data := .seq #[a, b] }), _, rfl, W, st, hfp, by simp, hw, hk, PySem.W.cmpIn_gt (s := { s with heap := s.heap.push { cls := .type "tuple", data := .seq #[a, b] } }) (A := A.in1) hr ha (by show A.units + 1 + _ < _; exact hu), fun v s' hP m => ?_⟩
  obtain ⟨h', tk, rfl, hk'⟩ := moved_old e rfl m
  have hv : v = if dataLt x y = true then b else a := by
    have hP' : (#[a, b] : Array Value)[if dataLt x y = true then 1 else 0]? = some v := hP
    by_cases c : dataLt x y = true
    · rw [if_pos c] at hP' ⊢
      exact (Option.some.inj hP').symm
    · rw [if_neg c] at hP' ⊢
      exact (Option.some.inj hP').symm
  rw [hv]
  exact h h' tk fun c o e => hk' c o (k0 c o e)
end
def rMinD (K : PySem.W.Frag) : List V → Hp → VK → Prop := fun xs H Q => ∃ (u v : V) (d e : PyData), xs = [u, v] ∧ Dp K H u d ∧ Dp K H v e ∧ AlikeAll [d, e] ∧ PyData.depthAll [d, e] ≤ 60 ∧ Q (if dataLt e d = true then v else u) H
def rMaxD2 (K : PySem.W.Frag) : List V → Hp → VK → Prop := fun xs H Q => ∃ (u v : V) (d e : PyData), xs = [u, v] ∧ Dp K H u d ∧ Dp K H v e ∧ AlikeAll [d, e] ∧ PyData.depthAll [d, e] ≤ 60 ∧ Q (if dataLt d e = true then v else u) H
section
variable {X : Cx}
theorem call_minD (hc : X.calm = true) (hu : X.A.units + 65 < cLine) : CallR X (.builtin "min") (rMinD X.K) := by
  intro pins s σ H xs us Q I r h
  obtain ⟨u, v, d, e, rfl, hd, he, ha, hz, q⟩ := h
  obtain ⟨u', v', rfl, ru, rv⟩ := vals2 r
  obtain ⟨as, r1⟩ := Dp.reads I d u u' hd ru
  obtain ⟨bs, r2⟩ := Dp.reads I e v v' he rv
  refine min_two_data (I.ok.hd hc) r1 r2 ha (by omega) fun h' tk k => ⟨_, H, I.kept k, ?_, q⟩
  split
  · exact rv
  · exact ru
theorem call_maxD (hc : X.calm = true) (hu : X.A.units + 65 < cLine) : CallR X (.builtin "max") (rMaxD2 X.K) := by
  intro pins s σ H xs us Q I r h
  obtain ⟨u, v, d, e, rfl, hd, he, ha, hz, q⟩ := h
  obtain ⟨u', v', rfl, ru, rv⟩ := vals2 r
  obtain ⟨as, r1⟩ := Dp.reads I d u u' hd ru
  obtain ⟨bs, r2⟩ := Dp.reads I e v v' he rv
  refine max_two_data (I.ok.hd hc) r1 r2 ha (by omega) fun h' tk k => ⟨_, H, I.kept k, ?_, q⟩
  split
  · exact rv
  · exact ru
end
def kf (p : Addr) (x y : Tl.Sg) (z : V) : Int × Int := if z = V.ref p then ((x.1 : Int), (x.2 : Int)) else ((y.1 : Int), (y.2 : Int))
theorem kf_1 {p : Addr} {x y : Tl.Sg} : kf p x y (.ref p) = ((x.1 : Int), (x.2 : Int)) := if_pos rfl
theorem kf_2 {p q : Addr} {x y : Tl.Sg} (h : V.ref q ≠ V.ref p) : kf p x y (.ref q) = ((y.1 : Int), (y.2 : Int)) := if_neg h
theorem perm2 {α : Type} {l : List α} {a b : α} (h : l.Perm [a, b]) : l = [a, b] ∨ l = [b, a] := by
  have hl := h.length_eq
  match l, hl with
  | [c, d], _ =>
    have hc : c ∈ [a, b] := h.mem_iff.mp (List.mem_cons_self ..)
    rcases List.mem_cons.mp hc with rfl | hc
    · have z := (List.perm_cons c).mp h
      have e := List.perm_singleton.mp z
      rw [e]
      exact .inl rfl
    · have e1 := List.mem_singleton.mp hc
      subst e1
      have z := (List.perm_cons c).mp (h.trans (List.Perm.swap c a []))
      have e := List.perm_singleton.mp z
      rw [e]
      exact .inr rfl
theorem sg_alike (x y : Tl.Sg) : AlikeAll [sgD x, sgD y] := by
  refine ⟨fun a ha b hb => ?_, fun a ha => ?_⟩
  · rcases List.mem_cons.mp ha with rfl | ha <;> rcases List.mem_cons.mp hb with rfl | hb
    · rfl
    · rw [List.mem_singleton.mp hb]; rfl
    · rw [List.mem_singleton.mp ha]; rfl
    · rw [List.mem_singleton.mp ha, List.mem_singleton.mp hb]; rfl
  · rcases List.mem_cons.mp ha with rfl | ha
    · exact fun z => nomatch z
    · rw [List.mem_singleton.mp ha]; exact fun z => nomatch z
theorem sg_lt (x y : Tl.Sg) : dataLt (sgD x) (sgD y) = decide (x.1 < y.1 ∨ (x.1 = y.1 ∧ x.2 < y.2)) := by
  rw [show dataLt (sgD x) (sgD y) = _ from dataLt_ii _ _ _ _, Bool.eq_iff_iff, decide_eq_true_iff, decide_eq_true_iff]
  omega
theorem sg_depth (x y : Tl.Sg) : PyData.depthAll [sgD x, sgD y] ≤ 60 := by simp [sgD, PyData.depth, PyData.depthAll]
section
variable {K : PySem.W.Frag} {H : Hp} {Q : VK} {u v : V} {x y : Tl.Sg}
theorem r_par {i j : Nat} {ta : TA} {σ : L2.St} {H : Hp} {D : Ends} (h : ta σ H fun vs H1 => ∃ v w, vs = [v, w] ∧ D.nx ((σ.set i (some v)).set j (some w)) H1) : tPar i j ta D σ H := h
/-- min of two signs of one chunk -/
theorem r_minSg (h : x.1 = y.1) (su : SgV K H u x) (sv : SgV K H v y) (q : Q (if y.2 < x.2 then v else u) H) : rMinD K [u, v] H Q := by
  refine ⟨u, v, _, _, rfl, su.dp, sv.dp, sg_alike x y, sg_depth x y, ?_⟩
  have e : (if dataLt (sgD y) (sgD x) = true then v else u) = if y.2 < x.2 then v else u := by
    by_cases c : y.2 < x.2
    · rw [if_pos c, if_pos (by rw [sg_lt, decide_eq_true_iff]; exact .inr ⟨h.symm, c⟩)]
    · rw [if_neg c, if_neg (by rw [sg_lt, decide_eq_true_iff]; omega)]
  rw [e]
  exact q
theorem r_maxSg (h : x.1 = y.1) (su : SgV K H u x) (sv : SgV K H v y) (q : Q (if x.2 < y.2 then v else u) H) : rMaxD2 K [u, v] H Q := by
  refine ⟨u, v, _, _, rfl, su.dp, sv.dp, sg_alike x y, sg_depth x y, ?_⟩
  have e : (if dataLt (sgD x) (sgD y) = true then v else u) = if x.2 < y.2 then v else u := by
    by_cases c : x.2 < y.2
    · rw [if_pos c, if_pos (by rw [sg_lt, decide_eq_true_iff]; exact .inr ⟨h, c⟩)]
    · rw [if_neg c, if_neg (by rw [sg_lt, decide_eq_true_iff]; omega)]
  rw [e]
  exact q
end
end Dk

/-! zip of two things, each a list, a tuple or a text -/
namespace Zp
open PySem PySem.Spec PyProof.Rows L2 Dk
inductive Kd where
  | l (a : Addr)
  | t (a : Addr)
  | s (z : Str)
abbrev sgs (z : Str) : List V := (cs z).map fun c => V.str ⟨#[c]⟩
def Kd.v : Kd → V
  | .l a => .ref a
  | .t a => .ref a
  | .s z => .str z
def Kd.has (K : PySem.W.Frag) : Kd → Hp → List V → Prop
  | .l a, H, xs => SqL K H a xs
  | .t a, H, xs => SqT K H a xs
  | .s z, _, xs => xs = sgs z
def Kd.st (tk : Tok) : Kd → Addr → Nat → Heap → Prop
  | .l a, it, i, h => h.IsListIter it a i
  | .t a, it, i, h => h.IsTupleIter it a i
  | .s z, it, i, h => h.IsStrIter it (strIterType z) z tk i
def Kd.ap : Kd → Addr → Prop
  | .l a, q => a ≠ q
  | .t a, q => a ≠ q
  | .s _, _ => True
section
variable {tk : Tok} {k : Kd} {it : Addr} {i : Nat} {h h' : Heap}
theorem Kd.st_obj (st : k.st tk it i h) : ∃ o, h.get? it = some o ∧ ∀ v, o.data ≠ .cell v := by
  cases k with
  | l a => obtain ⟨o, e, _, d⟩ := st; exact ⟨o, e, fun v q => by rw [d] at q; cases q⟩
  | t a => obtain ⟨o, e, _, d⟩ := st; exact ⟨o, e, fun v q => by rw [d] at q; cases q⟩
  | s z => obtain ⟨o, e, _, d⟩ := st; exact ⟨o, e, fun v q => by rw [d] at q; cases q⟩
theorem Kd.st_keep (st : k.st tk it i h) (q : ∀ o, h.get? it = some o → h'.get? it = some o) : k.st tk it i h' := by
  cases k with
  | l a => exact Heap.IsListIter.at st q
  | t a => exact Heap.IsTupleIter.at st q
  | s z => obtain ⟨o, ho, r⟩ := st; exact ⟨o, q o ho, r⟩
end
theorem vals_at {xs : List V} {its : List Value} (rv : Vals xs its) {j : Nat} {v : Value} (h : its[j]? = some v) : ∃ x, xs[j]? = some x ∧ RelV x v := by
  have hl := rv.length
  have hj := (List.getElem?_eq_some_iff.mp h).1
  obtain ⟨x, hx⟩ : ∃ x, xs[j]? = some x := ⟨_, List.getElem?_eq_getElem (by omega)⟩
  obtain ⟨u, hu, ru⟩ := rv.get hx
  rw [h] at hu
  cases hu
  exact ⟨x, hx, ru⟩
section
variable {X : Cx} {pins : List (Addr × Obj)} {σ : L2.St} {H : Hp} {s : Shared}
theorem Kd.draws (I : Inv X pins σ H s) (hh : X.A.in1.handled = none) {k : Kd} {xs : List V} (hq : k.has X.K H xs) {it : Addr} (hne : k.ap it) {tk : Tok} {i : Nat} (st : k.st tk it i s.heap) :
    ∃ (fp : List Addr) (P : Nat → Value → Prop) (St : Nat → Heap → Prop), Draws X.prog X.w X.A.in1 it fp xs.length P St ∧ St i s.heap ∧ (∀ j v, P j v → ∃ x, xs[j]? = some x ∧ RelV x v) ∧ (∀ j h, St j h → k.st tk it j h) ∧ it ∈ fp ∧ ∀ q ∈ fp, q = it ∨ ¬ k.ap q := by
  cases k with
  | l a =>
    obtain ⟨its, rv, p, _⟩ := I.list hq
    have e : its.toArray.size = xs.length := by rw [List.size_toArray]; exact rv.length.symm
    have D := Draws.list (prog := X.prog) (w := X.w) hh it a hne its.toArray
    rw [e] at D
    refine ⟨_, _, _, D, ⟨st, p.isList⟩, fun j v hv => vals_at rv (by simpa using hv), fun j h z => z.1, by simp, fun q hq => ?_⟩
    rcases List.mem_cons.mp hq with z | z
    · exact .inl z
    · exact .inr fun c => c (List.mem_singleton.mp z).symm
  | t a =>
    obtain ⟨its, rv, p, _⟩ := I.tuple hq
    have e : its.toArray.size = xs.length := by rw [List.size_toArray]; exact rv.length.symm
    have D := Draws.tuple (prog := X.prog) (w := X.w) hh it a hne its.toArray
    rw [e] at D
    refine ⟨_, _, _, D, ⟨st, p⟩, fun j v hv => vals_at rv (by simpa using hv), fun j h z => z.1, by simp, fun q hq => ?_⟩
    rcases List.mem_cons.mp hq with z | z
    · exact .inl z
    · exact .inr fun c => c (List.mem_singleton.mp z).symm
  | s z =>
    obtain rfl : xs = sgs z := hq
    have e : z.cps.size = (sgs z).length := by simp [sgs, cs]
    have D := Draws.text (prog := X.prog) (w := X.w) hh it z tk
    rw [e] at D
    refine ⟨_, _, _, D, st, fun j v hv => ?_, fun j h q => q, by simp, fun q hq => .inl (List.mem_singleton.mp hq)⟩
    obtain ⟨c, u, hc, rfl⟩ := hv
    refine ⟨.str ⟨#[c]⟩, ?_, u, rfl⟩
    show ((cs z).map _)[j]? = _
    rw [List.getElem?_map, show (cs z)[j]? = some c by rw [Array.getElem?_toList]; exact hc]
    rfl
theorem Kd.inj (I : Inv X pins σ H s) {k : Kd} {xs ys : List V} (h1 : k.has X.K H xs) (h2 : k.has X.K H ys) : xs = ys := by
  cases k with
  | l a => exact I.list_inj h1 h2
  | t a => exact I.tuple_inj h1 h2
  | s z => exact Eq.trans h1 (Eq.symm h2)
end
structure Ap (z TI TO i1 i2 : Addr) (k1 k2 : Kd) : Prop where
  TIz : TI ≠ z
  TOz : TO ≠ z
  i1z : i1 ≠ z
  i2z : i2 ≠ z
  TITO : TI ≠ TO
  TIi1 : TI ≠ i1
  TIi2 : TI ≠ i2
  TOi1 : TO ≠ i1
  TOi2 : TO ≠ i2
  i12 : i1 ≠ i2
  a1 : k1.ap z ∧ k1.ap TO ∧ k1.ap i1 ∧ k1.ap i2
  a2 : k2.ap z ∧ k2.ap TO ∧ k2.ap i1 ∧ k2.ap i2
theorem Ap.sep {z TI TO i1 i2 : Addr} {k1 k2 : Kd} (D : Ap z TI TO i1 i2 k1 k2) {fp1 fp2 : List Addr} (m1 : i1 ∈ fp1) (f1 : ∀ q ∈ fp1, q = i1 ∨ ¬ k1.ap q) (m2 : i2 ∈ fp2) (f2 : ∀ q ∈ fp2, q = i2 ∨ ¬ k2.ap q) : ZipSep2 z TI TO i1 i2 fp1 fp2 where
  TIz := D.TIz
  TOz := D.TOz
  TITO := D.TITO
  TIi1 := D.TIi1
  mem1 := m1
  zf1 := fun h => (f1 z h).elim (fun e => D.i1z e.symm) fun n => n D.a1.1
  Tf1 := fun h => (f1 TO h).elim D.TOi1 fun n => n D.a1.2.1
  TIi2 := D.TIi2
  mem2 := m2
  zf2 := fun h => (f2 z h).elim (fun e => D.i2z e.symm) fun n => n D.a2.1
  Tf2 := fun h => (f2 TO h).elim D.TOi2 fun n => n D.a2.2.1
  sep1_2 := fun h => (f2 i1 h).elim D.i12 fun n => n D.a2.2.2.1
  sep2_1 := fun h => (f1 i2 h).elim (fun e => D.i12 e.symm) fun n => n D.a1.2.2.2
def ItzK (K : PySem.W.Frag) (k1 k2 : Kd) : It :=
  ⟨fun i H => ∃ xs ys : List V, k1.has K H xs ∧ k2.has K H ys ∧ i < xs.length ∧ i < ys.length,
    fun i H v H' => ∃ T x y, v = .ref T ∧ H T = none ∧ H' = upd H T (.tup [x, y]) ∧ (∀ xs, k1.has K H xs → xs[i]? = some x) ∧ ∀ ys, k2.has K H ys → ys[i]? = some y,
    fun i H => ∃ xs ys : List V, k1.has K H xs ∧ k2.has K H ys ∧ i ≤ xs.length ∧ i ≤ ys.length ∧ (i = xs.length ∨ i = ys.length)⟩
theorem turn_zipK {P : Program} {w : World} {K : PySem.W.Frag} {elts : List Expr} {kk : Nat} {tpos : Pos} {k1 k2 : Kd} {tk1 tk2 : Tok} {z TI TO i1 i2 : Addr} (D : Ap z TI TO i1 i2 k1 k2) :
    Turn P w K (.Tuple elts kk tpos) (ItzK K k1 k2) [z, TI, TO, i1, i2] z (fun i h => IsZip h z TI TO .none ∧ IsTupOf2 h TI (.ref i1) (.ref i2) ∧ (∃ x y, IsTupOf2 h TO x y) ∧ k1.st tk1 i1 i h ∧ k2.st tk2 i2 i h) where
  mem := by simp
  obj := fun i h st c hc => by
    obtain ⟨hz, hTI, ⟨x, y, hTO⟩, s1, s2⟩ := st
    have e' : c = z ∨ c = TI ∨ c = TO ∨ c = i1 ∨ c = i2 := by simpa using hc
    rcases e' with q | q | q | q | q
    · rw [q]; exact ⟨_, hz, fun v q => nomatch q⟩
    · rw [q]; exact ⟨_, hTI, fun v q => nomatch q⟩
    · rw [q]; exact ⟨_, hTO, fun v q => nomatch q⟩
    · rw [q]; exact Kd.st_obj s1
    · rw [q]; exact Kd.st_obj s2
  keep := fun i h h' st k => by
    obtain ⟨hz, hTI, ⟨x, y, hTO⟩, h1, h2⟩ := st
    exact ⟨k z (by simp) _ hz, k TI (by simp) _ hTI, ⟨x, y, k TO (by simp) _ hTO⟩, Kd.st_keep h1 fun o q => k i1 (by simp) o q, Kd.st_keep h2 fun o q => k i2 (by simp) o q⟩
  item := by
    intro X hP hw hK hc i pins s σ H E I hf st hg
    subst hP hw hK
    obtain ⟨hz, hTI, ⟨x0, y0, hTO⟩, h1, h2⟩ := st
    obtain ⟨xs, ys, hqx, hqy, hx, hy⟩ := hg
    have hh : X.A.in1.handled = none := I.ok.hd hc
    obtain ⟨fp1, P1, St1, D1, st1, g1, b1, m1, f1⟩ := Kd.draws I hh hqx D.a1.2.2.1 h1
    obtain ⟨fp2, P2, St2, D2, st2, g2, b2, m2, f2⟩ := Kd.draws I hh hqy D.a2.2.2.2 h2
    have S := D.sep m1 f1 m2 f2
    have hzl : z < s.heap.objs.size := Heap.lt_size hz
    refine wpAny_pyNext_zipD2_item S D1 D2 hz hTI hTO st1 st2 hx hy fun u u2 h' tk p1 p2 z' TO' s1' s2' hT hsz hk => ?_
    obtain ⟨x, hxx, ru⟩ := g1 _ _ p1
    obtain ⟨y, hyy, ru2⟩ := g2 _ _ p2
    refine ⟨_, rfl, wpAny_letOwnedTupleGo_zip (s := { s with heap := h', toks := tk }) z' fun h'' z'' sb => ?_⟩
    have hT2 : h''.get? s.heap.objs.size = some { cls := .type "tuple", data := .seq #[u, u2] } := (sb.2 _ (Nat.ne_of_gt hzl)).trans hT
    have new : ObjOk X.prog X.w (upd H s.heap.objs.size (.tup [x, y])) h'' s.heap.objs.size (.tup [x, y]) :=
      ⟨by show 2 ≤ sizeLine; decide, [u, u2], .cons ru (.cons ru2 .nil), ⟨_, hT2, rfl, _, rfl⟩⟩
    have I1 : Inv X pins σ (upd H s.heap.objs.size (.tup [x, y])) { s with heap := h'', toks := tk } :=
      I.turnedNew (t' := tk) (ch := [z, TI, TO, i1, i2]) (fun c o hb q => (sb.2 c (fun q' => hb (by simp [q']))).trans (hk c o (fun q' => hb (by simp [q'])) (fun q' => hb (by simp [q'])) (fun q' => hb (by simp [q'])) (fun q' => hb (by simp [q'])) q)) hf (Nat.le_refl _) new
    refine ⟨.ref s.heap.objs.size, _, I1, rfl, ⟨_, x, y, rfl, I.hok.fresh (Nat.le_refl _), rfl, fun l hl => by rw [Kd.inj I hl hqx]; exact hxx, fun l hl => by rw [Kd.inj I hl hqy]; exact hyy⟩, ⟨z'', ?_, ⟨u, u2, ?_⟩, ?_, ?_⟩, fun c hcm => ?_⟩
    · exact (sb.2 _ D.TIz).trans (hk _ _ D.TIz D.TITO D.TIi1 D.TIi2 hTI)
    · exact (sb.2 _ D.TOz).trans TO'
    · exact Kd.st_keep (b1 _ _ s1') fun o q => (sb.2 _ D.i1z).trans q
    · exact Kd.st_keep (b2 _ _ s2') fun o q => (sb.2 _ D.i2z).trans q
    · have hlt : c < s.heap.objs.size := by
        have e' : c = z ∨ c = TI ∨ c = TO ∨ c = i1 ∨ c = i2 := by simpa using hcm
        rcases e' with q | q | q | q | q
        · rw [q]; exact hzl
        · rw [q]; exact Heap.lt_size hTI
        · rw [q]; exact Heap.lt_size hTO
        · rw [q]; obtain ⟨_, e1, _⟩ := Kd.st_obj h1; exact Heap.lt_size e1
        · rw [q]; obtain ⟨_, e2, _⟩ := Kd.st_obj h2; exact Heap.lt_size e2
      rw [upd_ne (Nat.ne_of_lt hlt)]
      exact (hf c hcm).1
  done := by
    intro X hP hw hK hc i pins s σ H E I hf st hg
    subst hP hw hK
    obtain ⟨hz, hTI, ⟨x0, y0, hTO⟩, h1, h2⟩ := st
    obtain ⟨xs, ys, hqx, hqy, l1, l2, hend⟩ := hg
    have hh : X.A.in1.handled = none := I.ok.hd hc
    obtain ⟨fp1, P1, St1, D1, st1, g1, b1, m1, f1⟩ := Kd.draws I hh hqx D.a1.2.2.1 h1
    obtain ⟨fp2, P2, St2, D2, st2, g2, b2, m2, f2⟩ := Kd.draws I hh hqy D.a2.2.2.2 h2
    have S := D.sep m1 f1 m2 f2
    exact wpAny_pyNext_zipD2_end S D1 D2 hz hTI hTO st1 st2 l1 l2 hend fun h' tk hk => ⟨rfl, I.turnedL (t' := tk) (ch := [z, TI, TO, i1, i2]) (fun c o hb q =>
      hk c o (fun q' => hb (by simp [q'])) (fun q' => hb (by simp [q'])) (fun q' => hb (by simp [q'])) (fun q' => hb (by simp [q'])) q) hf⟩
  self := fun A i s Q E st h => wpAny_pyIter_zip st.1 h
/-- how it begins -/
theorem Kd.begins {X : Cx} {pins : List (Addr × Obj)} {σ : L2.St} {H : Hp} {s : Shared} (I : Inv X pins σ H s) {k : Kd} {xs : List V} (hq : k.has X.K H xs) {u : Value} (r : RelV k.v u) :
    ∃ (o : Obj) (HH : Heap → Prop) (tk : Tok), Begins u o HH ∧ HH s.heap ∧ (∀ it h', h'.get? it = some o → k.st tk it 0 h') ∧ ∀ q, s.heap.objs.size ≤ q → k.ap q := by
  cases k with
  | l a =>
    obtain rfl : u = Value.ref a := r
    obtain ⟨its, rv, p, _⟩ := I.list hq
    exact ⟨_, _, 0, begins_list a its.toArray, p.isList, fun it h' e => ⟨_, e, rfl, rfl⟩, fun q hq e => by rw [← e] at hq; exact absurd p.lt (Nat.not_lt.mpr hq)⟩
  | t a =>
    obtain rfl : u = Value.ref a := r
    obtain ⟨its, rv, p, _⟩ := I.tuple hq
    obtain ⟨o1, ho1, _⟩ := id p
    exact ⟨_, _, 0, begins_tuple a its.toArray, p, fun it h' e => ⟨_, e, rfl, rfl⟩, fun q hq e => by rw [← e] at hq; exact absurd (Heap.lt_size ho1) (Nat.not_lt.mpr hq)⟩
  | s z =>
    obtain ⟨t, rfl⟩ := r
    exact ⟨_, _, t, begins_text z t, trivial, fun it h' e => ⟨_, e, rfl, rfl⟩, fun _ _ => trivial⟩
theorem ne_nat {a b : Nat} (h : a ≠ b) : @Ne Addr a b := h
def iZipK (K : PySem.W.Frag) (ta : TA) : TI := fun σ H R => ta σ H fun vs H1 => ∃ k1 k2 : Kd, vs = [k1.v, k2.v] ∧ (∃ xs, k1.has K H1 xs) ∧ (∃ ys, k2.has K H1 ys) ∧ R (ItzK K k1 k2) H1
theorem pi_zipK {X : Cx} {e e2 : Expr} {ta : TA} {p pos tpos : Pos} {elts : List Expr} {kk : Nat} (hg : Gl X "zip") (hm : X.mg "zip" = none) (ha : PA X [e, e2] ta)
    (hs : starEach [e, e2] X.env = (false, eval e X.env) :: starEach [e2] X.env := by rfl) (hpl : (backTo pos (starEach [e2] X.env)).any (·.1) = false := by rfl) :
    PI X (.Tuple elts kk tpos) (.Call (.Name "zip" p) [e, e2] [] pos) (iZipK X.K ta) := by
  refine ⟨fun pins s σ H R I h => ?_⟩
  refine Call_ (ld_blt I hg hm PyProof.Rows.boot_zip (PyProof.Rows.callWith_type1 (thn (ha.run pos pins s σ H _ I h) fun us s1 ⟨vs, H1, I1, r1, q1⟩ => ?_) hs hpl))
  obtain ⟨k1, k2, ex, ⟨xs, hx⟩, ⟨ys, hy⟩, q⟩ := q1
  subst ex
  cases r1 with
  | cons r rr =>
    cases rr with
    | cons r' rr =>
      cases rr
      obtain ⟨o1, HH1, tk1, B1, g1, st1, ap1⟩ := Kd.begins I1 hx r
      obtain ⟨o2, HH2, tk2, B2, g2, st2, ap2⟩ := Kd.begins I1 hy r'
      refine zip_begins2 B1 B2 g1 g2 fun h' hz hTI hTO h1 h2 hsz hk => wpAny_pyIter_zip hz ?_
      have I2 : Inv X pins σ H1 { s1 with heap := h' } := I1.kept (t' := s1.toks) hk
      have fresh5 : ∀ c, c ∈ [s1.heap.objs.size + 4, s1.heap.objs.size + 2, s1.heap.objs.size + 3, s1.heap.objs.size, s1.heap.objs.size + 1] → FpOk X pins H1 c := fun c hcm => by
        have hle : s1.heap.objs.size ≤ c := by
          have e' : c = s1.heap.objs.size + 4 ∨ c = s1.heap.objs.size + 2 ∨ c = s1.heap.objs.size + 3 ∨ c = s1.heap.objs.size ∨ c = s1.heap.objs.size + 1 := by simpa using hcm
          omega
        exact I1.fpOk hle (I1.hok.fresh hle)
      have ap : Ap (s1.heap.objs.size + 4) (s1.heap.objs.size + 2) (s1.heap.objs.size + 3) s1.heap.objs.size (s1.heap.objs.size + 1) k1 k2 :=
        ⟨ne_nat (by omega), ne_nat (by omega), ne_nat (by omega), ne_nat (by omega), ne_nat (by omega), ne_nat (by omega), ne_nat (by omega), ne_nat (by omega), ne_nat (by omega), ne_nat (by omega), ⟨ap1 _ (by omega), ap1 _ (by omega), ap1 _ (by omega), ap1 _ (by omega)⟩, ⟨ap2 _ (by omega), ap2 _ (by omega), ap2 _ (by omega), ap2 _ (by omega)⟩⟩
      exact ⟨s1.heap.objs.size + 4, [s1.heap.objs.size + 4, s1.heap.objs.size + 2, s1.heap.objs.size + 3, s1.heap.objs.size, s1.heap.objs.size + 1], _, _, H1, rfl, I2, turn_zipK (tk1 := tk1) (tk2 := tk2) ap, ⟨hz, hTI, ⟨_, _, hTO⟩, st1 _ _ h1, st2 _ _ h2⟩, fresh5, q⟩
/-! as walks -/
theorem walk_zipK {K : PySem.W.Frag} {k1 k2 : Kd} {xs ys : List V} {n : Nat} (hn : n = min xs.length ys.length) :
    Walk (ItzK K k1 k2) n (fun H => k1.has K H xs ∧ k2.has K H ys) (fun i H v H' => ∃ T x y, v = .ref T ∧ H T = none ∧ H' = upd H T (.tup [x, y]) ∧ xs[i]? = some x ∧ ys[i]? = some y) :=
  ⟨fun i H hi g => ⟨xs, ys, g.1, g.2, by omega, by omega⟩, fun H g => ⟨xs, ys, g.1, g.2, by omega, by omega, by omega⟩, fun i H v H' hi g y => by
    obtain ⟨T, x, y, h1, h2, h3, h4, h5⟩ := y
    exact ⟨T, x, y, h1, h2, h3, h4 xs g.1, h5 ys g.2⟩⟩
end Zp

/-! rules of our own: text[::-1], min of a list of tuples of numbers -/
namespace Dk
open PySem PySem.Spec PyProof.Rows L2 PySem.SeqAt PySem.W
/-! text[::-1] -/
def revS (z : Str) : Str := ⟨(cs z).reverse.toArray⟩
theorem cs_rev (z : Str) : cs (revS z) = (cs z).reverse := List.toList_toArray
theorem rev_len (z : Str) : (revS z).length = z.length := by rw [← cs_len, cs_rev, List.length_reverse, cs_len]
theorem rev_made (z : Str) (t u : Tok) : sliceMade z t none none (some (-1, u)) = Made.str (revS z) := by
  have e : slicePicked z none none (some (-1, u)) = (List.range z.length).reverse := by
    show sliceRange ((z.length : Int) - 1) (-1) (-1) = _
    rw [krv_sliceRange, krv_range]
  unfold sliceMade
  rw [e]
  have e2 : ((Option.map (fun x => x.1) (some ((-1 : Int), u))).getD 1 == 1 && ((List.range z.length).reverse.length == z.length)) = false := by
    have : ((-1 : Int) == 1) = false := by decide
    show (((-1 : Int) == 1) && _) = false
    rw [this, Bool.false_and]
  rw [if_neg (by rw [e2]; exact Bool.false_ne_true)]
  congr 1
  unfold revS
  congr 1
  have e3 : ((List.range z.length).reverse.filterMap (z.cps[·]?)) = (cs z).reverse := by
    rw [List.filterMap_reverse]
    congr 1
    exact krv_all z.cps
  rw [e3]
def tRevS (te : TE) : TE := fun σ H Q => te σ H fun x H1 => ∃ z, x = .str z ∧ z.length ≤ sizeLine ∧ Q (.str (revS z)) H1
theorem pe_revS {X : Cx} {e st : Expr} {te ts : TE} {pos p2 : Pos} (he : PE X e te) (hst : PE X st ts) (hv : ∀ σ H (Q : VK), Q (.int (-1)) H → ts σ H Q) : PE X (.Subscript e (.Slice none none (some st) p2) pos) (tRevS te) := by
  refine ⟨fun pins s σ H Q I h => ?_⟩
  refine Subscript_ (thn (he.run pins s σ H _ I h) fun v s1 ⟨x, H1, I1, r1, q1⟩ => ?_)
  obtain ⟨z, rfl, hz, q⟩ := q1
  obtain ⟨t, rfl⟩ := r1
  refine wpAny_Slice ?_
  rw [evalPart_none]
  refine wpAny_pure ?_
  refine wpAny_pure ?_
  rw [evalPart_some]
  refine thn (hst.run pins s1 σ H1 _ I1 (hv σ H1 (fun y H2 => y = .int (-1) ∧ H2 = H1) ⟨rfl, rfl⟩)) fun u s2 ⟨y, H2, I2, ry, qy, eH⟩ => ?_
  subst qy eH
  obtain ⟨tk, rfl⟩ := ry
  have I3 : Inv X pins σ H2 { s2 with heap := s2.heap.push { cls := .type "slice", data := .fields #[.none, .none, .int (-1) tk] } } := I2.kept (t' := s2.toks) fun b ob q => Heap.get?_push_of_some _ q
  show wpAny (model X.prog X.w) X.A (subscriptTail e (.Slice none none (some st) p2) (.str z t) (.ref s2.heap.objs.size)) (EP X pins σ Q) X.xe { s2 with heap := s2.heap.push { cls := .type "slice", data := .fields #[.none, .none, .int (-1) tk] } }
  refine tail_any (ops := [.ref s2.heap.objs.size, .str z t]) (typeIs_str _ z t) F.slot_str_getitem.lookup ?_ (by with_unfolding_all rfl)
  refine wpAny_getItem_str_slice (l := none) (u := none) (st := some (-1, tk)) ⟨_, Heap.get?_push_size _ rfl, rfl, rfl⟩ rfl ?_
  rw [rev_made]
  exact ⟨by rw [rev_len]; exact hz, .str _, H2, I3.tok _, ⟨_, rfl⟩, q⟩
theorem r_revS {te : TE} {σ : L2.St} {H : Hp} {Q : VK} (h : te σ H fun x H1 => ∃ z, x = .str z ∧ z.length ≤ sizeLine ∧ Q (.str (revS z)) H1) : tRevS te σ H Q := h
theorem r_revZ {z : Str} {H : Hp} {Q : VK} (hz : z.length ≤ 8000) (q : Q (.str (revS z)) H) : ∃ y, V.str z = .str y ∧ y.length ≤ sizeLine ∧ Q (.str (revS y)) H := ⟨z, rfl, by rw [sizeLine_eq]; omega, q⟩
/-! zip -/
theorem r_forZo {K : PySem.W.Frag} {ta : TA} {g : TG} {tb : TS} {D : Ends} {σ : L2.St} {H : Hp} (h : ta σ H fun vs H1 => ∃ k1 k2 : Zp.Kd, vs = [k1.v, k2.v] ∧ (∃ xs, k1.has K H1 xs) ∧ (∃ ys, k2.has K H1 ys) ∧ LoopW (Zp.ItzK K k1 k2) g tb D σ H1) : tFor (Zp.iZipK K ta) g tb D σ H := h
theorem sgs_at {z : Str} {i : Nat} {x : V} (h : (Zp.sgs z)[i]? = some x) : ∃ c, (cs z)[i]? = some c ∧ x = .str ⟨#[c]⟩ := by
  rw [List.getElem?_map] at h
  obtain ⟨c, hc, rfl⟩ := Option.map_eq_some_iff.mp h
  exact ⟨c, hc, rfl⟩
/-- over zip(text, text) -/
theorem l_ZS {K : PySem.W.Frag} {x y : Str} {g : TG} {tb : TS} {D : Ends} {σ : L2.St} {H : Hp} (Pv : Nat → L2.St → Hp → Prop) (p0 : Pv 0 σ H)
    (ht : ∀ i c d σ H p, (cs x)[i]? = some c → (cs y)[i]? = some d → Pv i σ H → H p = none → g (.ref p) σ (upd H p (.tup [.str ⟨#[c]⟩, .str ⟨#[d]⟩])) fun σ2 H2 => tb { D with nx := Pv (i + 1), ct := Pv (i + 1), bk := D.nx } σ2 H2)
    (hd : ∀ σ H, Pv (min x.length y.length) σ H → D.nx σ H) :
    ∃ k1 k2 : Zp.Kd, [V.str x, V.str y] = [k1.v, k2.v] ∧ (∃ xs, k1.has K H xs) ∧ (∃ ys, k2.has K H ys) ∧ LoopW (Zp.ItzK K k1 k2) g tb D σ H := by
  refine ⟨.s x, .s y, rfl, ⟨_, rfl⟩, ⟨_, rfl⟩, for_it (Zp.walk_zipK (xs := Zp.sgs x) (ys := Zp.sgs y) rfl) Pv p0 (fun _ _ _ _ _ => ⟨rfl, rfl⟩) (fun i v σ H H' hi p yy => ?_) fun σ H p => hd σ H ?_⟩
  · obtain ⟨T, a, b, rfl, hT, rfl, ha, hb⟩ := yy
    obtain ⟨c, hc, rfl⟩ := sgs_at ha
    obtain ⟨d, hd', rfl⟩ := sgs_at hb
    exact ht i c d σ H T hc hd' p hT
  · rw [List.length_map, List.length_map, cs_len, cs_len] at p
    exact p
/-! min of a list of data -/
section
variable {prog : Program} {w : World} {A : Around} {E : Value → Shared → Prop} {s : Shared}
theorem min_list_at {l : Addr} {vs : Array Value} {xs : List PyData} {as : List Addr} {Q : Value → Shared → Prop} (hh : A.handled = none) (hl : s.heap.IsList l vs) (hr : ReadsAll s.heap vs.toList xs as) (h0 : 0 < xs.length) (ha : AlikeAll xs) (hu : A.units + 1 + PyData.depthAll xs < cLine)
    (h : ∀ v h' tk, vs[argBest (fun i j => dataLt (xs.getD i .none) (xs.getD j .none)) (xs.length - 1)]? = some v → (∀ b o, s.heap.get? b = some o → h'.get? b = some o) → Q v { s with heap := h', toks := tk }) :
    wpAny (model prog w) A (call (.builtin "min") [.ref l]) Q E s := by
  have hn : vs.size = xs.length := readsAll_len hr
  refine call_min_walkH (iter_listW (A := A.in1) hh hl fun s₂ e W st hfp hw hk => ?_)
  refine ⟨_, _, _, _, _, _, _, s.heap, _, rfl, W, st, hfp, by omega, hw, hk, cmpIn_lt (A := A.in1) hr ha (by show A.units + 1 + _ < _; exact hu), fun v s' hP m => ?_⟩
  obtain ⟨h', tk, rfl, hk'⟩ := moved_old e rfl m
  rw [hn] at hP
  exact h v h' tk hP hk'
end
theorem dpall_reads {X : Cx} {pins : List (Addr × Obj)} {σ : L2.St} {H : Hp} {s : Shared} (I : Inv X pins σ H s) : ∀ {xs : List V} {ds : List PyData} {its : List Value}, DpAll X.K H xs ds → Vals xs its → ∃ as, ReadsAll s.heap its ds as
  | _, _, _, .nil, .nil => ⟨_, .nil⟩
  | _, _, _, .cons h t, .cons r q => by
    obtain ⟨as, r1⟩ := Dp.reads I _ _ _ h r
    obtain ⟨bs, r2⟩ := dpall_reads I t q
    exact ⟨_, .cons r1 r2⟩
def rMinLs (K : PySem.W.Frag) : List V → Hp → VK → Prop := fun vs H Q => ∃ (p : Addr) (xs : List V) (ds : List PyData), vs = [.ref p] ∧ SqL K H p xs ∧ DpAll K H xs ds ∧ 0 < ds.length ∧ AlikeAll ds ∧ PyData.depthAll ds ≤ 60 ∧
  ∀ v, xs[argBest (fun i j => dataLt (ds.getD i .none) (ds.getD j .none)) (ds.length - 1)]? = some v → Q v H
theorem call_minLs {X : Cx} (hc : X.calm = true) (hu : X.A.units + 65 < cLine) : CallR X (.builtin "min") (rMinLs X.K) := by
  intro pins s σ H vs us Q I r h
  obtain ⟨p, xs, ds, rfl, hp, hd, h0, ha, hz, q⟩ := h
  rw [Vals.ref1 r]
  obtain ⟨its, rv, hl, _⟩ := I.list hp
  obtain ⟨as, hr⟩ : ∃ as, ReadsAll s.heap its ds as := dpall_reads I hd rv
  refine min_list_at (I.ok.hd hc) hl.isList (by simpa using hr) h0 ha (by omega) fun v h' tk hv k => ?_
  obtain ⟨x, hx, rx⟩ := Zp.vals_at rv (by simpa using hv)
  exact ⟨x, H, I.kept k, rx, q x hx⟩
/-- the best by a transitive relation: none is less -/
theorem best_least {bt : Nat → Nat → Bool} (tr : ∀ i j k, bt i j = true → bt j k = true → bt i k = true) (irr : ∀ i, bt i i = false) : ∀ n, argBest bt n ≤ n ∧ ∀ j, j ≤ n → bt j (argBest bt n) = false
  | 0 => ⟨Nat.le_refl _, fun j hj => by
    have e : j = 0 := by omega
    subst e
    exact irr 0⟩
  | n + 1 => by
    obtain ⟨h1, h2⟩ := best_least tr irr n
    show (if bt (n + 1) (argBest bt n) = true then n + 1 else argBest bt n) ≤ n + 1 ∧ ∀ j, j ≤ n + 1 → bt j (if bt (n + 1) (argBest bt n) = true then n + 1 else argBest bt n) = false
    by_cases c : bt (n + 1) (argBest bt n) = true
    · rw [if_pos c]
      refine ⟨Nat.le_refl _, fun j hj => ?_⟩
      by_cases e : j = n + 1
      · subst e
        exact irr _
      · cases d : bt j (n + 1) with
        | false => rfl
        | true =>
          have z := tr j (n + 1) _ d c
          rw [h2 j (by omega)] at z
          cases z
    · rw [if_neg c]
      refine ⟨by omega, fun j hj => ?_⟩
      by_cases e : j = n + 1
      · subst e
        simpa using c
      · exact h2 j (by omega)
theorem lt_ints (a b : Int) (xs ys : List PyData) : dataLt (.tuple (.int a :: xs)) (.tuple (.int b :: ys)) = if a = b then dataLt (.tuple xs) (.tuple ys) else decide (a < b) := by
  rw [dataLt_tuple]
  show PyProof.Rows.lexLt itemOrd ([.inl 1] ++ (keyToks (.int a) ++ keyToksAll xs)) ([.inl 1] ++ (keyToks (.int b) ++ keyToksAll ys)) = _
  rw [lex_pre]
  by_cases h : a = b
  · subst h
    rw [lex_pre, if_pos rfl, dataLt_tuple]
  · rw [if_neg h]
    show PyProof.Rows.lexLt itemOrd (.inl a :: keyToksAll xs) (.inl b :: keyToksAll ys) = _
    rw [lex_atom (by intro z; exact h (Sum.inl.inj z))]
    exact dataLt_int a b
/-! four numbers -/
abbrev Q4 := Int × Int × Int × Int
abbrev q4D (x : Q4) : PyData := .tuple [.int x.1, .int x.2.1, .int x.2.2.1, .int x.2.2.2]
def q4Lt (x y : Q4) : Prop := x.1 < y.1 ∨ (x.1 = y.1 ∧ (x.2.1 < y.2.1 ∨ (x.2.1 = y.2.1 ∧ (x.2.2.1 < y.2.2.1 ∨ (x.2.2.1 = y.2.2.1 ∧ x.2.2.2 < y.2.2.2)))))
theorem q4_lt (x y : Q4) : dataLt (q4D x) (q4D y) = true ↔ q4Lt x y := by
  unfold q4Lt
  show dataLt (.tuple (.int x.1 :: _)) (.tuple (.int y.1 :: _)) = true ↔ _
  rw [lt_ints]
  by_cases h1 : x.1 = y.1
  · rw [if_pos h1, lt_ints]
    by_cases h2 : x.2.1 = y.2.1
    · rw [if_pos h2, lt_ints]
      by_cases h3 : x.2.2.1 = y.2.2.1
      · rw [if_pos h3, lt_ints]
        by_cases h4 : x.2.2.2 = y.2.2.2
        · rw [if_pos h4]
          have e : dataLt (.tuple []) (.tuple []) = false := by decide +kernel
          rw [e]
          constructor
          · intro z
            cases z
          · intro z
            omega
        · rw [if_neg h4, decide_eq_true_iff]
          omega
      · rw [if_neg h3, decide_eq_true_iff]
        omega
    · rw [if_neg h2, decide_eq_true_iff]
      omega
  · rw [if_neg h1, decide_eq_true_iff]
    omega
def Q4V (H : Hp) (v : V) (x : Q4) : Prop := ∃ p, v = .ref p ∧ H p = some (.tup [.int x.1, .int x.2.1, .int x.2.2.1, .int x.2.2.2])
instance : Imm Q4V := ⟨fun t h => h.imp fun p z => ⟨z.1, t _ _ z.2⟩⟩
theorem Q4V.dp {K : PySem.W.Frag} {H : Hp} {v : V} {x : Q4} (h : Q4V H v x) : Dp K H v (q4D x) := by
  obtain ⟨p, rfl, hp⟩ := h
  exact .tup (sqT hp) (.cons (.int _) (.cons (.int _) (.cons (.int _) (.cons (.int _) .nil))))
theorem q4_dps {K : PySem.W.Frag} {H : Hp} {xs : List V} {l : List Q4} (h : P2 (Q4V H) xs l) : DpAll K H xs (l.map q4D) := by
  induction h with
  | nil => exact .nil
  | cons h t ih => exact .cons (Q4V.dp h) ih
/-- min(l), l a list of tuples of four numbers -/
theorem r_minQ4 {K : PySem.W.Frag} {H : Hp} {Q : VK} {p : Addr} {xs : List V} {l : List Q4} (hp : H p = some (.lst xs)) (h : P2 (Q4V H) xs l) (h0 : 0 < l.length) (q : ∀ v x, Q4V H v x → x ∈ l → (∀ y ∈ l, ¬ q4Lt y x) → Q v H) : rMinLs K [.ref p] H Q := by
  have dep : PyData.depthAll (l.map q4D) ≤ 60 := by
    clear h0 q h
    induction l with
    | nil => decide
    | cons x r ih =>
      show max (q4D x).depth (PyData.depthAll (r.map q4D)) ≤ 60
      have e : (q4D x).depth ≤ 2 := by simp [q4D, PyData.depth, PyData.depthAll]
      omega
  refine ⟨p, xs, l.map q4D, rfl, sqL hp, q4_dps h, by rw [List.length_map]; exact h0, ⟨fun a ha b hb => ?_, fun a ha z => ?_⟩, dep, fun v hv => ?_⟩
  · obtain ⟨x, _, rfl⟩ := List.mem_map.mp ha
    obtain ⟨y, _, rfl⟩ := List.mem_map.mp hb
    rfl
  · obtain ⟨x, _, rfl⟩ := List.mem_map.mp ha
    cases z
  · rw [List.length_map] at hv
    obtain ⟨x, hx, sx⟩ := h.get hv
    have gd : ∀ {i : Nat} {y : Q4}, l[i]? = some y → (l.map q4D).getD i .none = q4D y := fun {i y} e => by
      rw [List.getD_eq_getElem?_getD, List.getElem?_map, e]; rfl
    have at_ : ∀ i, i < l.length → ∃ y, l[i]? = some y := fun i hi => ⟨_, List.getElem?_eq_getElem hi⟩
    have lt0 : ∀ i, l.length ≤ i → (l.map q4D).getD i .none = PyData.none := fun i hi => by
      rw [List.getD_eq_getElem?_getD, List.getElem?_eq_none (by rw [List.length_map]; exact hi)]; rfl
    refine q v x sx (List.mem_of_getElem? hx) fun y hy hlt => ?_
    obtain ⟨j, hj⟩ := List.getElem?_of_mem hy
    have hjl := (List.getElem?_eq_some_iff.mp hj).1
    -- the best is least: by walking along
    have key : ∀ n, n < l.length → ∃ b, l[argBest (fun i j => dataLt ((l.map q4D).getD i .none) ((l.map q4D).getD j .none)) n]? = some b ∧ ∀ j y, j ≤ n → l[j]? = some y → ¬ q4Lt y b := by
      intro n
      induction n with
      | zero =>
        intro hn
        obtain ⟨b, hb⟩ := at_ 0 hn
        refine ⟨b, hb, fun j y hj hy => ?_⟩
        have e : j = 0 := by omega
        subst e
        rw [hb] at hy
        rw [Option.some.inj hy]
        unfold q4Lt
        omega
      | succ n ih =>
        intro hn
        obtain ⟨b, hb, hmin⟩ := ih (by omega)
        obtain ⟨c, hc⟩ := at_ (n + 1) hn
        show ∃ b, l[if dataLt ((l.map q4D).getD (n + 1) .none) ((l.map q4D).getD (argBest _ n) .none) = true then n + 1 else argBest _ n]? = some b ∧ _
        rw [gd hc, gd hb]
        by_cases e : dataLt (q4D c) (q4D b) = true
        · rw [if_pos e]
          have e' := (q4_lt c b).mp e
          refine ⟨c, hc, fun j y hj hy h => ?_⟩
          by_cases ej : j = n + 1
          · subst ej
            rw [hc] at hy
            cases hy
            unfold q4Lt at h
            omega
          · refine hmin j y (by omega) hy ?_
            unfold q4Lt at h e' ⊢
            omega
        · rw [if_neg e]
          refine ⟨b, hb, fun j y hj hy h => ?_⟩
          by_cases ej : j = n + 1
          · subst ej
            rw [hc] at hy
            cases hy
            exact e ((q4_lt _ _).mpr h)
          · exact hmin j y (by omega) hy h
    obtain ⟨b, hb, hmin⟩ := key (l.length - 1) (by omega)
    rw [hx] at hb
    cases hb
    exact hmin j y (by omega) hj hlt
end Dk

/-! list(zip(a, b)), a and b each a list, a tuple or a text -/
namespace Zl
open PySem PySem.Spec PyProof.Rows L2 Dk Zp PySem.W
section
variable {prog : Program} {w : World} {A : Around} {E : Value → Shared → Prop} {s : Shared} {z TI TO T i1 i2 : Addr} {fp1 fp2 : List Addr} {f : Bool} {oT : Obj} {i n1 n2 : Nat} {P1 P2 : Nat → Value → Prop} {St1 St2 : Nat → Heap → Prop}
theorem next_item_held {Q : Value → Shared → Prop} (S : ZipSep2 z TI TO i1 i2 fp1 fp2) (D1 : Draws prog w A i1 fp1 n1 P1 St1) (D2 : Draws prog w A i2 fp2 n2 P2 St2)
    (hz : IsZipHeld s.heap z TI TO T f) (hT : s.heap.get? T = some oT) (hTI : IsTupOf2 s.heap TI (.ref i1) (.ref i2)) (st1 : St1 i s.heap) (st2 : St2 i s.heap) (hlt1 : i < n1) (hlt2 : i < n2)
    (hQ : ∀ x1 x2 h' tk, P1 i x1 → P2 i x2 → IsZipHeld h' z TI TO T true → St1 (i + 1) h' → St2 (i + 1) h' → IsTupOf2 h' s.heap.objs.size x1 x2 → h'.objs.size = s.heap.objs.size + 1 →
      (∀ c o, c ≠ z → c ≠ i1 → c ≠ i2 → s.heap.get? c = some o → h'.get? c = some o) → Q (.ref s.heap.objs.size) { s with heap := h', toks := tk }) :
    wpAny (model prog w) A (Builtin.«zip.__next__» ⟨[.ref z], []⟩) (fun fin s' => ∃ v, fin = .done (.ret v) ∧ Q v s') E s := by
  obtain ⟨hp, g, d, tk0, os⟩ := s
  show wpAny _ _ (field (.ref z) 2 >>= _) _ _ _
  refine wpAny_bind (wpAny_field hz rfl (x := .bool false) rfl ?_)
  show wpAny _ _ (field (.ref z) 3 >>= _) _ _ _
  refine wpAny_bind (wpAny_field hz rfl (x := .ref TI) rfl ?_)
  refine wpAny_bind (wpAny_seqItems hTI rfl ?_)
  show wpAny _ _ (Builtin.SmallTypes.ownedTupleIsFree (.ref z) >>= _) _ _ _
  refine wpAny_bind (wpAny_tupleHeld_zip hz hT fun h₁ hz₁ hs₁ => ?_)
  replace hs₁ : Heap.SameBut z hp h₁ := hs₁
  simp only [Bool.false_eq_true, if_false]
  refine wpAny_bind ?_
  rw [← Array.forIn_toList]
  simp only [List.forIn_cons, List.forIn_nil]
  refine wpAny_bind (wpAny_bind (wpAny_holding ?_))
  show wpAny _ _ (Builtin.SmallTypes.nextOf (.ref i1) >>= _) _ _ ⟨h₁, g, d, tk0, os⟩
  refine wpAny_bind (D1.item i _ _ _ hlt1 (D1.over st1 hs₁ S.zf1) fun x1 p1 tk1 hx1 sn1 hp1 => wpAny_pure ?_)
  replace hp1 : Heap.SameBut i1 h₁ p1 := hp1
  refine wpAny_pure ?_
  refine wpAny_bind (wpAny_bind (wpAny_holding ?_))
  show wpAny _ _ (Builtin.SmallTypes.nextOf (.ref i2) >>= _) _ _ ⟨p1, g, d, tk1, os⟩
  refine wpAny_bind (D2.item i _ _ _ hlt2 (D2.over (D2.over st2 hs₁ S.zf2) hp1 S.sep1_2) fun x2 p2 tk2 hx2 sn2 hp2 => wpAny_pure ?_)
  replace hp2 : Heap.SameBut i2 p1 p2 := hp2
  refine wpAny_pure (wpAny_pure ?_)
  show wpAny _ _ (newTuple [x1, x2] >>= _) _ _ ⟨p2, g, d, tk2, os⟩
  refine wpAny_bind (wpAny_newTuple ?_)
  have hsz : p2.objs.size = hp.objs.size := by rw [hp2.1, hp1.1, hs₁.1]
  have hz₃ : IsZipHeld p2 z TI TO T true := hp2.extBut _ _ S.zi2 (hp1.extBut _ _ S.zi1 hz₁)
  have hk : ∀ c o, c ≠ z → c ≠ i1 → c ≠ i2 → hp.get? c = some o → p2.get? c = some o := fun c o c1 c2 c3 e => hp2.extBut _ _ c3 (hp1.extBut _ _ c2 (hs₁.extBut _ _ c1 e))
  have hj1 : St1 (i + 1) p2 := D1.over sn1 hp2 S.sep2_1
  refine wpAny_pure ⟨_, rfl, ?_⟩
  show Q (.ref p2.objs.size) ⟨p2.push { cls := .type "tuple", data := .seq #[x1, x2] }, g, d, tk2, os⟩
  have up : ∀ c o, p2.get? c = some o → (p2.push { cls := .type "tuple", data := .seq #[x1, x2] }).get? c = some o := fun c o e => Heap.get?_push_of_some _ e
  have hpT : IsTupOf2 (p2.push { cls := .type "tuple", data := .seq #[x1, x2] }) p2.objs.size x1 x2 := Heap.get?_push_size _ rfl
  have hz4 : (p2.push { cls := .type "tuple", data := .seq #[x1, x2] }).objs.size = p2.objs.size + 1 := Heap.size_push ..
  rw [hsz] at hpT hz4 ⊢
  exact hQ x1 x2 _ tk2 hx1 hx2 (up _ _ hz₃) (D1.frame _ _ _ hj1 fun b _ o e => up b o e) (D2.frame _ _ _ sn2 fun b _ o e => up b o e) hpT hz4 fun c o c1 c2 c3 e => up c o (hk c o c1 c2 c3 e)
theorem next_end_held {Q : Fin → Shared → Prop} (S : ZipSep2 z TI TO i1 i2 fp1 fp2) (D1 : Draws prog w A i1 fp1 n1 P1 St1) (D2 : Draws prog w A i2 fp2 n2 P2 St2)
    (hz : IsZipHeld s.heap z TI TO T f) (hT : s.heap.get? T = some oT) (hTI : IsTupOf2 s.heap TI (.ref i1) (.ref i2)) (st1 : St1 i s.heap) (st2 : St2 i s.heap) (hle1 : i ≤ n1) (hle2 : i ≤ n2) (hend : i = n1 ∨ i = n2)
    (hE : ∀ h' tk e, (∀ c o, c ≠ z → c ≠ i1 → c ≠ i2 → s.heap.get? c = some o → h'.get? c = some o) → (∃ o, h'.get? e = some o ∧ o.cls = .type "StopIteration") → E (.ref e) { s with heap := h', toks := tk }) :
    wpAny (model prog w) A (Builtin.«zip.__next__» ⟨[.ref z], []⟩) Q E s := by
  obtain ⟨hp, g, d, tk0, os⟩ := s
  show wpAny _ _ (field (.ref z) 2 >>= _) _ _ _
  refine wpAny_bind (wpAny_field hz rfl (x := .bool false) rfl ?_)
  show wpAny _ _ (field (.ref z) 3 >>= _) _ _ _
  refine wpAny_bind (wpAny_field hz rfl (x := .ref TI) rfl ?_)
  refine wpAny_bind (wpAny_seqItems hTI rfl ?_)
  show wpAny _ _ (Builtin.SmallTypes.ownedTupleIsFree (.ref z) >>= _) _ _ _
  refine wpAny_bind (wpAny_tupleHeld_zip hz hT fun h₁ hz₁ hs₁ => ?_)
  replace hs₁ : Heap.SameBut z hp h₁ := hs₁
  simp only [Bool.false_eq_true, if_false]
  refine wpAny_bind ?_
  rw [← Array.forIn_toList]
  simp only [List.forIn_cons, List.forIn_nil]
  refine wpAny_bind (wpAny_bind (wpAny_holding ?_))
  show wpAny _ _ (Builtin.SmallTypes.nextOf (.ref i1) >>= _) _ _ ⟨h₁, g, d, tk0, os⟩
  by_cases hlt1 : i < n1
  · refine wpAny_bind (D1.item i _ _ _ hlt1 (D1.over st1 hs₁ S.zf1) fun x1 p1 tk1 hx1 sn1 hp1 => wpAny_pure ?_)
    replace hp1 : Heap.SameBut i1 h₁ p1 := hp1
    have hi2 : i = n2 := by omega
    refine wpAny_pure ?_
    refine wpAny_bind (wpAny_bind (wpAny_holding ?_))
    show wpAny _ _ (Builtin.SmallTypes.nextOf (.ref i2) >>= _) _ _ ⟨p1, g, d, tk1, os⟩
    refine wpAny_bind (D2.done ⟨p1, g, d, tk1, os⟩ _ _ (by rw [← hi2]; exact D2.over (D2.over st2 hs₁ S.zf2) hp1 S.sep1_2) fun q e hq he => ?_)
    replace hq : Heap.ExtBut i2 p1 q := hq
    exact hE q tk1 e (fun c o cz c1 c2 x => hq _ _ c2 (hp1.extBut _ _ c1 (hs₁.extBut _ _ cz x))) he
  · have hi1 : i = n1 := by omega
    refine wpAny_bind (D1.done ⟨h₁, g, d, tk0, os⟩ _ _ (by rw [← hi1]; exact D1.over st1 hs₁ S.zf1) fun q e hq he => ?_)
    replace hq : Heap.ExtBut i1 h₁ q := hq
    exact hE q tk0 e (fun c o cz c1 c2 x => hq _ _ c1 (hs₁.extBut _ _ cz x)) he
theorem pyNext_item_held {Q : Option Value → Shared → Prop} (S : ZipSep2 z TI TO i1 i2 fp1 fp2) (D1 : Draws prog w A.in1 i1 fp1 n1 P1 St1) (D2 : Draws prog w A.in1 i2 fp2 n2 P2 St2)
    (hz : IsZipHeld s.heap z TI TO T f) (hT : s.heap.get? T = some oT) (hTI : IsTupOf2 s.heap TI (.ref i1) (.ref i2)) (st1 : St1 i s.heap) (st2 : St2 i s.heap) (hlt1 : i < n1) (hlt2 : i < n2)
    (hQ : ∀ x1 x2 h' tk, P1 i x1 → P2 i x2 → IsZipHeld h' z TI TO T true → St1 (i + 1) h' → St2 (i + 1) h' → IsTupOf2 h' s.heap.objs.size x1 x2 → h'.objs.size = s.heap.objs.size + 1 →
      (∀ c o, c ≠ z → c ≠ i1 → c ≠ i2 → s.heap.get? c = some o → h'.get? c = some o) → Q (some (.ref s.heap.objs.size)) { s with heap := h', toks := tk }) :
    wpAny (model prog w) A (pyNext (.ref z)) Q E s := by
  have hTy : s.TypeIs (.ref z) "zip" := ⟨_, hz, rfl⟩
  unfold pyNext
  exact wpAny_bind (wpAny_attempt (wpAny_callSpecial?_slot (name := Str.ofString "__next__") hTy F.slot_zip_next
    (wpAny_call_entry F.slot_zip_next hTy F.entry_zip_next
      (next_item_held S D1 D2 hz hT hTI st1 st2 hlt1 hlt2 fun x1 x2 h' tk y1 y2 b1 d1 d2 b5 b6 b7 => wpAny_pure (hQ x1 x2 h' tk y1 y2 b1 d1 d2 b5 b6 b7)) (F.args_zip_next_1 _))))
theorem pyNext_end_held {Q : Option Value → Shared → Prop} (S : ZipSep2 z TI TO i1 i2 fp1 fp2) (D1 : Draws prog w A.in1 i1 fp1 n1 P1 St1) (D2 : Draws prog w A.in1 i2 fp2 n2 P2 St2)
    (hz : IsZipHeld s.heap z TI TO T f) (hT : s.heap.get? T = some oT) (hTI : IsTupOf2 s.heap TI (.ref i1) (.ref i2)) (st1 : St1 i s.heap) (st2 : St2 i s.heap) (hle1 : i ≤ n1) (hle2 : i ≤ n2) (hend : i = n1 ∨ i = n2)
    (hQ : ∀ h' tk, (∀ c o, c ≠ z → c ≠ i1 → c ≠ i2 → s.heap.get? c = some o → h'.get? c = some o) → Q none { s with heap := h', toks := tk }) : wpAny (model prog w) A (pyNext (.ref z)) Q E s := by
  have hTy : s.TypeIs (.ref z) "zip" := ⟨_, hz, rfl⟩
  unfold pyNext
  refine wpAny_bind (wpAny_attempt (wpAny_callSpecial?_slot (name := Str.ofString "__next__") hTy F.slot_zip_next
    (wpAny_call_entry F.slot_zip_next hTy F.entry_zip_next (next_end_held S D1 D2 hz hT hTI st1 st2 hle1 hle2 hend fun h' tk e hk he => ?_) (F.args_zip_next_1 _))))
  obtain ⟨o, ho, hc⟩ := he
  refine wpAny_bind (wpAny_isInstance (T := "StopIteration") (b := true) ⟨o, ho, hc⟩ isSubtype_stop ?_)
  exact wpAny_pure (hQ _ _ hk)
end
theorem zip_no_len : typeLookup (.type "zip") "__len__" = pure none := am_miss_of_fast (by decide +kernel)
theorem zip_no_hint : typeLookup (.type "zip") "__length_hint__" = pure none := am_miss_of_fast (by decide +kernel)

section
variable {X : Cx} {pins : List (Addr × Obj)} {σ : L2.St} {H : Hp} {s : Shared} {A : Around}
theorem kd_draws (I : Inv X pins σ H s) (hh : A.handled = none) {k : Kd} {xs : List V} (hq : k.has X.K H xs) {it : Addr} (hne : k.ap it) {tk : Tok} {i : Nat} (st : k.st tk it i s.heap) :
    ∃ (fp : List Addr) (P : Nat → Value → Prop) (St : Nat → Heap → Prop), Draws X.prog X.w A it fp xs.length P St ∧ St i s.heap ∧ (∀ j v, P j v → ∃ x, xs[j]? = some x ∧ RelV x v) ∧ (∀ j h, St j h → k.st tk it j h) ∧ it ∈ fp ∧ ∀ q ∈ fp, q = it ∨ ¬ k.ap q := by
  cases k with
  | l a =>
    obtain ⟨its, rv, p, _⟩ := I.list hq
    have e : its.toArray.size = xs.length := by rw [List.size_toArray]; exact rv.length.symm
    have D := Draws.list (prog := X.prog) (w := X.w) hh it a hne its.toArray
    rw [e] at D
    refine ⟨_, _, _, D, ⟨st, p.isList⟩, fun j v hv => vals_at rv (by simpa using hv), fun j h z => z.1, by simp, fun q hq => ?_⟩
    rcases List.mem_cons.mp hq with z | z
    · exact .inl z
    · exact .inr fun c => c (List.mem_singleton.mp z).symm
  | t a =>
    obtain ⟨its, rv, p, _⟩ := I.tuple hq
    have e : its.toArray.size = xs.length := by rw [List.size_toArray]; exact rv.length.symm
    have D := Draws.tuple (prog := X.prog) (w := X.w) hh it a hne its.toArray
    rw [e] at D
    refine ⟨_, _, _, D, ⟨st, p⟩, fun j v hv => vals_at rv (by simpa using hv), fun j h z => z.1, by simp, fun q hq => ?_⟩
    rcases List.mem_cons.mp hq with z | z
    · exact .inl z
    · exact .inr fun c => c (List.mem_singleton.mp z).symm
  | s z =>
    obtain rfl : xs = sgs z := hq
    have e : z.cps.size = (sgs z).length := by simp [sgs, cs]
    have D := Draws.text (prog := X.prog) (w := X.w) hh it z tk
    rw [e] at D
    refine ⟨_, _, _, D, st, fun j v hv => ?_, fun j h q => q, by simp, fun q hq => .inl (List.mem_singleton.mp hq)⟩
    obtain ⟨c, u, hc, rfl⟩ := hv
    refine ⟨.str ⟨#[c]⟩, ?_, u, rfl⟩
    show ((cs z).map _)[j]? = _
    rw [List.getElem?_map, show (cs z)[j]? = some c by rw [Array.getElem?_toList]; exact hc]
    rfl
theorem has_up {K : PySem.W.Frag} {G G' : Hp} (e : Ex G G') {k : Kd} {xs : List V} (h : k.has K G xs) : k.has K G' xs := by
  cases k with
  | l a => exact SqL.up e h
  | t a => exact SqT.up e h
  | s z => exact h
/-- what the zip knows of the tuple that it gave out -/
def ZO (h : Heap) (z TI TO : Addr) : Option Addr → Prop
  | none => IsZip h z TI TO .none ∧ ∃ x y, IsTupOf2 h TO x y
  | some T => ∃ f oT, IsZipHeld h z TI TO T f ∧ h.get? T = some oT
structure ZSt (k1 k2 : Kd) (tk1 tk2 : Tok) (z TI TO i1 i2 : Addr) (T0 : Option Addr) (i : Nat) (h : Heap) : Prop where
  zo : ZO h z TI TO T0
  to : ∃ o, h.get? TO = some o
  ti : IsTupOf2 h TI (.ref i1) (.ref i2)
  s1 : k1.st tk1 i1 i h
  s2 : k2.st tk2 i2 i h
theorem ZSt.keep {k1 k2 : Kd} {tk1 tk2 : Tok} {z TI TO i1 i2 : Addr} {T0 : Option Addr} {i : Nat} {h h' : Heap} (st : ZSt k1 k2 tk1 tk2 z TI TO i1 i2 T0 i h)
    (k : ∀ b, (b ∈ [z, TI, TO, i1, i2] ∨ T0 = some b) → ∀ o, h.get? b = some o → h'.get? b = some o) : ZSt k1 k2 tk1 tk2 z TI TO i1 i2 T0 i h' where
  zo := by
    have q := st.zo
    cases T0 with
    | none => exact ⟨k z (.inl (by simp)) _ q.1, q.2.imp fun x y => y.imp fun y p => k TO (.inl (by simp)) _ p⟩
    | some T =>
      obtain ⟨f, oT, h1, h2⟩ := q
      exact ⟨f, oT, k z (.inl (by simp)) _ h1, k T (.inr rfl) _ h2⟩
  to := st.to.imp fun o q => k TO (.inl (by simp)) _ q
  ti := k TI (.inl (by simp)) _ st.ti
  s1 := Kd.st_keep st.s1 fun o q => k i1 (.inl (by simp)) o q
  s2 := Kd.st_keep st.s2 fun o q => k i2 (.inl (by simp)) o q
theorem zs_item {E : Value → Shared → Prop} (hh : A.in1.handled = none) (I : Inv X pins σ H s) {k1 k2 : Kd} {xs ys : List V} (hqx : k1.has X.K H xs) (hqy : k2.has X.K H ys) {z TI TO i1 i2 : Addr} (D : Ap z TI TO i1 i2 k1 k2) {tk1 tk2 : Tok} {T0 : Option Addr}
    (hT0 : ∀ T, T0 = some T → T ∉ [z, TI, TO, i1, i2]) {i : Nat} (st : ZSt k1 k2 tk1 tk2 z TI TO i1 i2 T0 i s.heap) (hf : ∀ c ∈ [z, TI, TO, i1, i2], FpOk X pins H c) (hx : i < xs.length) (hy : i < ys.length) {Q : Option Value → Shared → Prop}
    (h : ∀ x y h' tk T1, xs[i]? = some x → ys[i]? = some y → Inv X pins σ (upd H s.heap.objs.size (.tup [x, y])) { s with heap := h', toks := tk } → T1 ∉ [z, TI, TO, i1, i2] → (T1 = s.heap.objs.size ∨ T0 = some T1) →
      ZSt k1 k2 tk1 tk2 z TI TO i1 i2 (some T1) (i + 1) h' → (∀ c ∈ [z, TI, TO, i1, i2], FpOk X pins (upd H s.heap.objs.size (.tup [x, y])) c) → (∀ c o, c ∉ [z, TI, TO, i1, i2] → s.heap.get? c = some o → h'.get? c = some o) → Q (some (.ref s.heap.objs.size)) { s with heap := h', toks := tk }) :
    wpAny (model X.prog X.w) A (pyNext (.ref z)) Q E s := by
  obtain ⟨hzo, ⟨oTO, hTOo⟩, hTI, h1, h2⟩ := st
  obtain ⟨fp1, P1, St1, D1, st1, g1, b1, m1, f1⟩ := kd_draws I hh hqx D.a1.2.2.1 h1
  obtain ⟨fp2, P2, St2, D2, st2, g2, b2, m2, f2⟩ := kd_draws I hh hqy D.a2.2.2.2 h2
  have S := D.sep m1 f1 m2 f2
  have lt : ∀ c ∈ [z, TI, TO, i1, i2], c ≠ TO → c < s.heap.objs.size := fun c hcm hTO => by
    have e' : c = z ∨ c = TI ∨ c = TO ∨ c = i1 ∨ c = i2 := by simpa using hcm
    rcases e' with q | q | q | q | q
    · rw [q]
      cases T0 with
      | none => exact Heap.lt_size hzo.1
      | some T => obtain ⟨_, _, e1, _⟩ := hzo; exact Heap.lt_size e1
    · rw [q]; exact Heap.lt_size hTI
    · exact absurd q hTO
    · rw [q]; obtain ⟨_, e1, _⟩ := Kd.st_obj h1; exact Heap.lt_size e1
    · rw [q]; obtain ⟨_, e2, _⟩ := Kd.st_obj h2; exact Heap.lt_size e2
  have fin : ∀ (u u2 : Value) (h' : Heap) (tk : Nat) (T1 : Addr), P1 i u → P2 i u2 → St1 (i + 1) h' → St2 (i + 1) h' → IsTupOf2 h' s.heap.objs.size u u2 → (∀ c o, c ∉ [z, TI, TO, i1, i2] → s.heap.get? c = some o → h'.get? c = some o) → IsTupOf2 h' TI (.ref i1) (.ref i2) → (∃ o, h'.get? TO = some o) →
      ZO h' z TI TO (some T1) → T1 ∉ [z, TI, TO, i1, i2] → (T1 = s.heap.objs.size ∨ T0 = some T1) → (∀ c ∈ [z, TI, TO, i1, i2], c ≠ s.heap.objs.size) → Q (some (.ref s.heap.objs.size)) { s with heap := h', toks := tk } := fun u u2 h' tk T1 p1 p2 s1' s2' hT hk ti to zo n1 n2 nc => by
    obtain ⟨x, hxx, ru⟩ := g1 _ _ p1
    obtain ⟨y, hyy, ru2⟩ := g2 _ _ p2
    have new : ObjOk X.prog X.w (upd H s.heap.objs.size (.tup [x, y])) h' s.heap.objs.size (.tup [x, y]) :=
      ⟨by show 2 ≤ sizeLine; decide, [u, u2], .cons ru (.cons ru2 .nil), ⟨_, hT, rfl, _, rfl⟩⟩
    have I1 : Inv X pins σ (upd H s.heap.objs.size (.tup [x, y])) { s with heap := h', toks := tk } :=
      I.turnedNew (t' := tk) (ch := [z, TI, TO, i1, i2]) hk hf (Nat.le_refl _) new
    exact h x y h' tk T1 hxx hyy I1 n1 n2 ⟨zo, to, ti, b1 _ _ s1', b2 _ _ s2'⟩ (fun c hc => ⟨by rw [upd_ne (nc c hc)]; exact (hf c hc).1, (hf c hc).2⟩) hk
  cases T0 with
  | none =>
    obtain ⟨hz, x0, y0, hTO⟩ := hzo
    have nc : ∀ c ∈ [z, TI, TO, i1, i2], c ≠ s.heap.objs.size := fun c hc => by
      by_cases e : c = TO
      · rw [e]; exact Nat.ne_of_lt (Heap.lt_size hTO)
      · exact Nat.ne_of_lt (lt c hc e)
    refine wpAny_pyNext_zipD2_item S D1 D2 hz hTI hTO st1 st2 hx hy fun u u2 h' tk p1 p2 z' TO' s1' s2' hT hsz hk => ?_
    exact fin u u2 h' tk s.heap.objs.size p1 p2 s1' s2' hT (fun c o hb q => hk c o (fun q' => hb (by simp [q'])) (fun q' => hb (by simp [q'])) (fun q' => hb (by simp [q'])) (fun q' => hb (by simp [q'])) q)
      (hk _ _ D.TIz D.TITO D.TIi1 D.TIi2 hTI) ⟨_, TO'⟩ ⟨false, _, z', hT⟩ (fun hc => nc _ hc rfl) (.inl rfl) nc
  | some T =>
    obtain ⟨f, oT, hz, hgT⟩ := hzo
    have nT := hT0 T rfl
    have nc : ∀ c ∈ [z, TI, TO, i1, i2], c ≠ s.heap.objs.size := fun c hc z => by
      have q := (hf c hc).1
      by_cases e : c = TO
      · exact Nat.lt_irrefl _ (z ▸ e ▸ Heap.lt_size hTOo)
      · exact Nat.lt_irrefl _ (z ▸ lt c hc e)
    refine pyNext_item_held S D1 D2 hz hgT hTI st1 st2 hx hy fun u u2 h' tk p1 p2 z' s1' s2' hT hsz hk => ?_
    exact fin u u2 h' tk T p1 p2 s1' s2' hT (fun c o hb q => hk c o (fun q' => hb (by simp [q'])) (fun q' => hb (by simp [q'])) (fun q' => hb (by simp [q'])) q)
      (hk _ _ D.TIz D.TIi1 D.TIi2 hTI) ⟨_, hk _ _ D.TOz D.TOi1 D.TOi2 hTOo⟩ ⟨true, oT, z', hk _ _ (fun q => nT (by simp [q])) (fun q => nT (by simp [q])) (fun q => nT (by simp [q])) hgT⟩ nT (.inr rfl) nc
theorem zs_done {E : Value → Shared → Prop} (hh : A.in1.handled = none) (I : Inv X pins σ H s) {k1 k2 : Kd} {xs ys : List V} (hqx : k1.has X.K H xs) (hqy : k2.has X.K H ys) {z TI TO i1 i2 : Addr} (D : Ap z TI TO i1 i2 k1 k2) {tk1 tk2 : Tok} {T0 : Option Addr}
    {i : Nat} (st : ZSt k1 k2 tk1 tk2 z TI TO i1 i2 T0 i s.heap) (hf : ∀ c ∈ [z, TI, TO, i1, i2], FpOk X pins H c) (hx : i ≤ xs.length) (hy : i ≤ ys.length) (he : i = xs.length ∨ i = ys.length) {Q : Option Value → Shared → Prop}
    (h : ∀ h' tk, Inv X pins σ H { s with heap := h', toks := tk } → Q none { s with heap := h', toks := tk }) : wpAny (model X.prog X.w) A (pyNext (.ref z)) Q E s := by
  obtain ⟨hzo, ⟨oTO, hTOo⟩, hTI, h1, h2⟩ := st
  obtain ⟨fp1, P1, St1, D1, st1, g1, b1, m1, f1⟩ := kd_draws I hh hqx D.a1.2.2.1 h1
  obtain ⟨fp2, P2, St2, D2, st2, g2, b2, m2, f2⟩ := kd_draws I hh hqy D.a2.2.2.2 h2
  have S := D.sep m1 f1 m2 f2
  have fin : ∀ h' tk, (∀ c o, c ∉ [z, TI, TO, i1, i2] → s.heap.get? c = some o → h'.get? c = some o) → Q none { s with heap := h', toks := tk } := fun h' tk hk =>
    h h' tk (I.turnedL (t' := tk) (ch := [z, TI, TO, i1, i2]) hk hf)
  cases T0 with
  | none =>
    obtain ⟨hz, x0, y0, hTO⟩ := hzo
    exact wpAny_pyNext_zipD2_end S D1 D2 hz hTI hTO st1 st2 hx hy he fun h' tk hk => fin h' tk fun c o hb q => hk c o (fun q' => hb (by simp [q'])) (fun q' => hb (by simp [q'])) (fun q' => hb (by simp [q'])) (fun q' => hb (by simp [q'])) q
  | some T =>
    obtain ⟨f, oT, hz, hgT⟩ := hzo
    exact pyNext_end_held S D1 D2 hz hgT hTI st1 st2 hx hy he fun h' tk hk => fin h' tk fun c o hb q => hk c o (fun q' => hb (by simp [q'])) (fun q' => hb (by simp [q'])) (fun q' => hb (by simp [q'])) q
/-- a pair of things, by value -/
def PqV (H : Hp) (v : V) (q : V × V) : Prop := ∃ t, v = .ref t ∧ H t = some (.tup [q.1, q.2])
instance : Imm PqV := ⟨fun t h => h.imp fun p z => ⟨z.1, t _ _ z.2⟩⟩
theorem zip_take {α β : Type} {xs : List α} {ys : List β} {i : Nat} {x : α} {y : β} (h1 : xs[i]? = some x) (h2 : ys[i]? = some y) : (xs.zip ys).take (i + 1) = (xs.zip ys).take i ++ [(x, y)] := by
  rw [List.take_add_one, (List.getElem?_zip_eq_some (z := (x, y))).mpr ⟨h1, h2⟩]
  rfl
theorem zl_loop {R : Result → Shared → Prop} {H1 : Hp} {k1 k2 : Kd} {xs ys : List V} (hx1 : k1.has X.K H1 xs) (hy1 : k2.has X.K H1 ys) {z TI TO i1 i2 : Addr} (D : Ap z TI TO i1 i2 k1 k2) {tk1 tk2 : Tok} {S : Addr} (hS1 : H1 S = none) (hSn : S ∉ [z, TI, TO, i1, i2]) (hh : A.in1.in1.handled = none)
    (hz : xs.length ≤ sizeLine) (hz2 : ys.length ≤ sizeLine) (res : Value) (hR : ∀ H' s' acc, Inv X pins σ H' s' → Ex H1 H' → H' S = some (.lst acc) → P2 (PqV H') acc (xs.zip ys) → R (.ok (.ret res)) s') :
    ∀ (k i : Nat) (s : Shared) (H : Hp) (acc : List V) (T0 : Option Addr), min xs.length ys.length - i = k → i ≤ min xs.length ys.length → Inv X pins σ H s → Ex H1 H → H S = some (.lst acc) → P2 (PqV H) acc ((xs.zip ys).take i) → (∀ T, T0 = some T → T ∉ [z, TI, TO, i1, i2] ∧ T ≠ S) →
      ZSt k1 k2 tk1 tk2 z TI TO i1 i2 T0 i s.heap → (∀ c ∈ [z, TI, TO, i1, i2], FpOk X pins H c) → codeAny (model X.prog X.w) A (.builtin "list.extend.loop" ⟨[.ref S, .ref z, res], []⟩) R s := by
  intro k
  induction k with
  | zero =>
    intro i s H acc T0 hk hi I e hS hP hT0 st hf
    refine codeAny_builtin PySem.F.entry_extend_loop ?_
    rw [Around.under_plainId PySem.F.plain_extend_loop _]
    show wpAny _ A.in1 (pyNext (.ref z) >>= _) _ _ _
    refine wpAny_bind (zs_done (A := A.in1) hh I (has_up e hx1) (has_up e hy1) D st hf (by omega) (by omega) (by omega) fun h' tk I' => ?_)
    refine wpAny_pure (hR _ _ acc I' e hS ?_)
    rw [List.take_of_length_le (by rw [List.length_zip]; omega)] at hP
    exact hP
  | succ k ih =>
    intro i s H acc T0 hk hi I e hS hP hT0 st hf
    have al := hP.len
    rw [List.length_take, List.length_zip] at al
    refine codeAny_builtin PySem.F.entry_extend_loop ?_
    rw [Around.under_plainId PySem.F.plain_extend_loop _]
    show wpAny _ A.in1 (pyNext (.ref z) >>= _) _ _ _
    refine wpAny_bind (zs_item (A := A.in1) hh I (has_up e hx1) (has_up e hy1) D (fun T h => (hT0 T h).1) st hf (by omega) (by omega) fun x y h' tk T1 hx hy I1 n1 n2 st' hf' hk' => ?_)
    have hSs : S ≠ s.heap.objs.size := fun q => by
      have z := I.fresh
      rw [← q, hS] at z
      cases z
    have hS2 : (upd H s.heap.objs.size (.tup [x, y])) S = some (.lst acc) := by rw [upd_ne hSs]; exact hS
    obtain ⟨z1, its, n, r, hl, eS⟩ := I1.lstM hS2
    have T1S : T1 ≠ S := by
      rcases n2 with q | q
      · rw [q]; exact Ne.symm hSs
      · exact (hT0 T1 q).2
    show wpAny _ A.in1 (updateSeq S (·.push (Value.ref s.heap.objs.size)) >>= _) _ _ { s with heap := h', toks := tk }
    refine wpAny_bind ?_
    have I2 := I1.lset (ys := acc ++ [.ref s.heap.objs.size]) (its' := its ++ [.ref s.heap.objs.size]) (f := fun a => a.push (Value.ref s.heap.objs.size)) (t' := tk) hS2 eS (by simp) (r.append (.cons (show L2.RelV (V.ref s.heap.objs.size) (Value.ref s.heap.objs.size) from rfl) .nil)) (by rw [List.length_append, List.length_singleton]; omega)
    refine wpAny_updateSeq eS rfl (wpAny_pure ⟨plainId_quiet PySem.F.plain_extend_loop _, ih (i + 1) _ _ (acc ++ [.ref s.heap.objs.size]) (some T1) (by omega) (by omega) I2 ?_ upd_same ?_ ?_ ?_ ?_⟩) ?_ ?_
    · exact Same.mut (e.trans (Same.new (Same.refl H) I.fresh)) hS1
    · rw [zip_take hx hy]
      have tn : Tk H (upd H s.heap.objs.size (.tup [x, y])) := .ex (Same.new (Same.refl H) I.fresh)
      have tp := Tk.put (o := .lst (acc ++ [.ref s.heap.objs.size])) hS2
      exact (p2_imm (tn.trans tp) hP).snoc (imm tp ⟨_, rfl, upd_same⟩)
    · intro T hT
      cases hT
      exact ⟨n1, T1S⟩
    · refine st'.keep fun b hb o q => (Heap.get?_update_other _ _ ?_).trans q
      rcases hb with hb | hb
      · exact fun q0 => hSn (by rw [q0]; exact hb)
      · cases hb
        exact Ne.symm T1S
    · intro c hc
      exact ⟨by rw [upd_ne fun q0 => hSn (by rw [← q0]; exact hc)]; exact (hf' c hc).1, (hf' c hc).2⟩
    · rw [List.size_toArray]
      omega
    · show (its.toArray.push _).size ≤ sizeLine + 1
      rw [Array.size_push, List.size_toArray]
      omega
def tListZip (K : PySem.W.Frag) (ta : TA) : TE := fun σ H Q => ta σ H fun vs H1 => ∃ (k1 k2 : Kd) (xs ys : List V), vs = [k1.v, k2.v] ∧ k1.has K H1 xs ∧ k2.has K H1 ys ∧ xs.length ≤ sizeLine ∧ ys.length ≤ sizeLine ∧
  ∀ p H' acc, Ex H1 H' → H1 p = none → H' p = some (.lst acc) → P2 (PqV H') acc (xs.zip ys) → Q (.ref p) H'
theorem pe_listZip {e e2 : Expr} {ta : TA} {p p2 pos pos2 : Pos} (hc : X.calm = true) (hg : Gl X "list") (hm : X.mg "list" = none) (hgz : Gl X "zip") (hmz : X.mg "zip" = none) (ha : PA X [e, e2] ta)
    (hs : starEach [.Call (.Name "zip" p2) [e, e2] [] pos2] X.env = (false, eval (.Call (.Name "zip" p2) [e, e2] [] pos2) X.env) :: starEach [] X.env := by rfl)
    (hs2 : starEach [e, e2] X.env = (false, eval e X.env) :: starEach [e2] X.env := by rfl) (hpl : (backTo pos2 (starEach [e2] X.env)).any (·.1) = false := by rfl) :
    PE X (.Call (.Name "list" p) [.Call (.Name "zip" p2) [e, e2] [] pos2] [] pos) (tListZip X.K ta) := by
  refine ⟨fun pins s σ H Q I h => ?_⟩
  refine wpAny_Call_Name_kw (ld_blt I hg hm boot_list ?_)
  refine PyProof.Rows.callWith_type1 ?_ hs rfl
  rw [hs]
  show wpAny _ _ (spliced ((false, eval (.Call (.Name "zip" p2) [e, e2] [] pos2) X.env) :: backTo pos (starEach [] X.env))) _ _ s
  refine Calls.spliced_cons ?_
  refine Call_ (ld_blt I hgz hmz PyProof.Rows.boot_zip (PyProof.Rows.callWith_type1 (thn (ha.run pos2 pins s σ H _ I h) fun us s1 ⟨vs, H1, I1, r1, q1⟩ => ?_) hs2 hpl))
  obtain ⟨k1, k2, xs, ys, ex, hx, hy, lx, ly, q⟩ := q1
  subst ex
  cases r1 with
  | cons r rr =>
    cases rr with
    | cons r' rr =>
      cases rr
      obtain ⟨o1, HH1, tk1, B1, g1, st1, ap1⟩ := Kd.begins I1 hx r
      obtain ⟨o2, HH2, tk2, B2, g2, st2, ap2⟩ := Kd.begins I1 hy r'
      refine zip_begins2 B1 B2 g1 g2 fun h' hz hTI hTO h1 h2 hsz hk => ?_
      have I2 : Inv X pins σ H1 { s1 with heap := h' } := I1.kept (t' := s1.toks) hk
      have fresh5 : ∀ c, c ∈ [s1.heap.objs.size + 4, s1.heap.objs.size + 2, s1.heap.objs.size + 3, s1.heap.objs.size, s1.heap.objs.size + 1] → FpOk X pins H1 c := fun c hcm => by
        have hle : s1.heap.objs.size ≤ c := by
          have e' : c = s1.heap.objs.size + 4 ∨ c = s1.heap.objs.size + 2 ∨ c = s1.heap.objs.size + 3 ∨ c = s1.heap.objs.size ∨ c = s1.heap.objs.size + 1 := by simpa using hcm
          omega
        exact I1.fpOk hle (I1.hok.fresh hle)
      have ap : Ap (s1.heap.objs.size + 4) (s1.heap.objs.size + 2) (s1.heap.objs.size + 3) s1.heap.objs.size (s1.heap.objs.size + 1) k1 k2 :=
        ⟨ne_nat (by omega), ne_nat (by omega), ne_nat (by omega), ne_nat (by omega), ne_nat (by omega), ne_nat (by omega), ne_nat (by omega), ne_nat (by omega), ne_nat (by omega), ne_nat (by omega), ⟨ap1 _ (by omega), ap1 _ (by omega), ap1 _ (by omega), ap1 _ (by omega)⟩, ⟨ap2 _ (by omega), ap2 _ (by omega), ap2 _ (by omega), ap2 _ (by omega)⟩⟩
      have zst : ZSt k1 k2 tk1 tk2 (s1.heap.objs.size + 4) (s1.heap.objs.size + 2) (s1.heap.objs.size + 3) s1.heap.objs.size (s1.heap.objs.size + 1) none 0 h' := ⟨⟨hz, _, _, hTO⟩, ⟨_, hTO⟩, hTI, st1 _ _ h1, st2 _ _ h2⟩
      have lt : ∀ c, c ∈ [s1.heap.objs.size + 4, s1.heap.objs.size + 2, s1.heap.objs.size + 3, s1.heap.objs.size, s1.heap.objs.size + 1] → c < h'.objs.size := fun c hcm => by
        have e' : c = s1.heap.objs.size + 4 ∨ c = s1.heap.objs.size + 2 ∨ c = s1.heap.objs.size + 3 ∨ c = s1.heap.objs.size ∨ c = s1.heap.objs.size + 1 := by simpa using hcm
        have hzl := Heap.lt_size hz
        omega
      generalize hzz : s1.heap.objs.size + 4 = z at *
      generalize s1.heap.objs.size + 2 = TI at *
      generalize s1.heap.objs.size + 3 = TO at *
      generalize s1.heap.objs.size + 1 = i2 at *
      generalize hi1 : s1.heap.objs.size = i1 at *
      refine Calls.spliced_nil ?_
      refine callType_codes (Q₁ := fun obj s₁ => obj = .ref h'.objs.size ∧ s₁ = { s1 with heap := h'.push { cls := .type "list", data := .seq #[] } }) PySem.F.called_list (PySem.F.typeCall_list_1 _) PySem.F.entry_list_init
        (code_list_new _ ⟨rfl, rfl⟩) fun obj s₁ h₁ => ?_
      obtain ⟨rfl, rfl⟩ := h₁
      have hSn : H1 h'.objs.size = none := I2.hok.fresh (Nat.le_refl _)
      have I3 := I2.lnew (ys := []) (its := []) (t' := s1.toks) .nil (Nat.zero_le _)
      have hS : (h'.push { cls := .type "list", data := .seq #[] }).get? h'.objs.size = some { cls := .type "list", data := .seq ([] : List Value).toArray } := Heap.get?_push_size _ rfl
      have sn : h'.objs.size ∉ [z, TI, TO, i1, i2] := fun hcm => Nat.lt_irrefl _ (lt _ hcm)
      refine ⟨⟨_, hS, rfl⟩, PySem.F.args_list_init_2 _ _, ?_⟩
      show wpAny _ X.A.in1.in1 (do let old ← Builtin.List.listItems (.ref h'.objs.size); Builtin.List.listUpdate (.ref h'.objs.size) (fun _ => #[]); letGo old.toList.reverse; Builtin.List.listExtendWith (.ref h'.objs.size) (.ref z) .none) _ _ _
      refine wpAny_bind ?_
      unfold Builtin.List.listItems
      refine wpAny_bind (wpAny_seqItems hS rfl (wpAny_pure ?_))
      show wpAny _ X.A.in1.in1 (updateSeq h'.objs.size (fun _ => #[]) >>= fun _ => letGo (#[] : Array Value).toList.reverse >>= fun _ => Builtin.List.listExtendWith (.ref h'.objs.size) (.ref z) .none) _ _ _
      refine wpAny_bind (wpAny_updateSeq hS rfl ?_)
      have I4 := I3.lset (l := h'.objs.size) (xs := []) (ys := []) (its := []) (its' := []) (f := fun _ => #[]) (t' := s1.toks) upd_same hS rfl .nil (Nat.zero_le _)
      have hS2 := Heap.get?_update_self (Obj.mapSeq (fun _ => (#[] : Array Value))) hS rfl
      refine wpAny_bind (wpAny_letGo ?_)
      unfold Builtin.List.listExtendWith
      have up : ∀ (hh : Heap) (f : Obj → Obj), (∀ b o, b ≠ h'.objs.size → h'.get? b = some o → hh.get? b = some o) → ∀ b o, b ≠ h'.objs.size → h'.get? b = some o → (hh.update h'.objs.size f).get? b = some o := fun hh f q b o n e =>
        (Heap.get?_update_other _ _ (Ne.symm n)).trans (q b o n e)
      have u1 : ∀ b o, b ≠ h'.objs.size → h'.get? b = some o → (h'.push { cls := .type "list", data := .seq #[] }).get? b = some o := fun b o _ e => Heap.get?_push_of_some _ e
      have u2 := up _ (Obj.mapSeq (fun _ => (#[] : Array Value))) u1
      have zS : z ≠ h'.objs.size := Nat.ne_of_lt (Heap.lt_size hz)
      have hz2 := u2 _ _ zS hz
      refine wpAny_bind (wpAny_typeOf (T := "zip") ⟨_, hz2, rfl⟩ ?_)
      have b1 : Builtin.List.listSameRef (.ref h'.objs.size) (.ref z) = false := by simp [Builtin.List.listSameRef, Ne.symm zS]
      have b2 : (Value.type "zip" == Value.type "list") = false := by decide
      have b3 : (Value.type "zip" == Value.type "tuple") = false := by decide
      simp only [b1, b2, b3, Bool.or_false, Bool.false_eq_true, if_false]
      refine wpAny_bind (wpAny_pyIter_zip hz2 ?_)
      refine wpAny_bind (wpAny_holding ?_)
      unfold Builtin.List.listLengthHint
      refine wpAny_bind (wpAny_specialOf (T := "zip") ⟨_, hz2, rfl⟩ zip_no_len ?_)
      show wpAny _ X.A.in1.in1 (specialOf (Value.ref z) (Str.ofString "__length_hint__") >>= _) _ _ _
      refine wpAny_bind (wpAny_specialOf (T := "zip") ⟨_, hz2, rfl⟩ zip_no_hint ?_)
      refine wpAny_pure ?_
      show wpAny _ X.A.in1.in1 (rule "list.extend.makes-room" >>= fun _ => Builtin.List.listTouch (.ref h'.objs.size) >>= fun _ =>
        again (.builtin "list.extend.loop" ⟨[.ref h'.objs.size, .ref z, .none], []⟩)) _ _ _
      refine wpAny_bind (wpAny_rule ?_)
      refine wpAny_bind ?_
      show wpAny _ X.A.in1.in1 (updateSeq h'.objs.size (·.push .none) >>= fun _ => updateSeq h'.objs.size (·.pop)) _ _ _
      refine wpAny_bind (wpAny_updateSeq hS2 rfl ?_)
      have I5 := I4.lset (l := h'.objs.size) (xs := []) (ys := [.non]) (its := []) (its' := [.none]) (f := (·.push .none)) (t' := s1.toks) upd_same hS2 rfl (.cons rfl .nil) (by decide)
      have hS3 := Heap.get?_update_self (Obj.mapSeq (·.push Value.none)) hS2 rfl
      refine wpAny_updateSeq (hz := by seq_fits) hS3 rfl ?_
      have I6 := I5.lset (l := h'.objs.size) (xs := [.non]) (ys := []) (its := [.none]) (its' := []) (f := (·.pop)) (t' := s1.toks) upd_same hS3 rfl .nil (Nat.zero_le _)
      have u4 := up _ (Obj.mapSeq (·.pop)) (up _ (Obj.mapSeq (·.push Value.none)) u2)
      refine wpAny_pure ⟨plainId_quiet PySem.F.plain_extend_loop _, ?_⟩
      have eH : Ex H1 (upd (upd (upd (upd H1 h'.objs.size (.lst [])) h'.objs.size (.lst [])) h'.objs.size (.lst [.non])) h'.objs.size (.lst [])) :=
        Same.mut (Same.mut (Same.mut (Same.new (Same.refl H1) hSn) hSn) hSn) hSn
      refine zl_loop (X := X) (pins := pins) (σ := σ) (A := X.A.in1) (H1 := H1) hx hy ap hSn sn (I.ok.hd hc) lx ly .none (fun H' s' acc I' e' hS' hP => ⟨rfl, .ref _, H', I', rfl, q _ H' acc e' hSn hS' hP⟩)
        _ 0 _ _ [] none rfl (Nat.zero_le _) I6 eH upd_same .nil (fun T h => by cases h) (zst.keep fun b hb o q => u4 b o (fun z => ?_) q) (fun c hcm => ?_)
      · rcases hb with hb | hb
        · exact sn (z ▸ hb)
        · cases hb
      · have n : c ≠ h'.objs.size := Nat.ne_of_lt (lt c hcm)
        refine ⟨?_, (fresh5 c hcm).2⟩
        rw [upd_ne n, upd_ne n, upd_ne n, upd_ne n]
        exact (fresh5 c hcm).1
end
end Zl

/-! a rule of our own: xs[a:c] = ys -/
namespace Dk
open PySem PySem.Spec PyProof.Rows L2 PySem.SeqAt PySem.W
def gSli (to : TE) (tl th : TO) : TG := fun v σ H Q => to σ H fun o H1 => tl σ H1 fun lo H2 => th σ H2 fun hi H3 => ∃ (l b : Addr) (xs ys : List V) (a c : Int), o = .ref l ∧ v = .ref b ∧ lo = some a ∧ hi = some c ∧
  H3 l = some (.lst xs) ∧ H3 b = some (.lst ys) ∧ l ≠ b ∧ 0 ≤ a ∧ a ≤ c ∧ c ≤ xs.length ∧ xs.length + ys.length ≤ sizeLine ∧ Q σ (upd H3 l (.lst (xs.take a.toNat ++ ys ++ xs.drop c.toNat)))
theorem pg_sli {X : Cx} {o : Expr} {lo hi : Option Expr} {to : TE} {tl th : TO} {pos p2 : Pos} (ho : PE X o to) (hl : PO X lo tl) (hu : PO X hi th)
    (ha : ∀ v, assign (.Subscript o (.Slice lo hi none p2) pos) X.env v = (do
      let ov ← holding [v] (eval o X.env)
      let iv ← holding [v, ov] (eval (.Slice lo hi none p2) X.env)
      standAt pos
      holding [v, ov, iv] (setItem ov iv v)
      release [iv, v, ov] []) := by intro _; rfl) : PG X (.Subscript o (.Slice lo hi none p2) pos) (gSli to tl th) := by
  refine ⟨fun pins s σ H v u Q I r h => ?_⟩
  rw [ha]
  refine wpAny_bind (wpAny_holding (thn (ho.run pins s σ H _ I h) fun ov s1 ⟨x, H1, I1, r1, q1⟩ => ?_))
  refine wpAny_bind (wpAny_holding (wpAny_Slice (thn (hl.run pins s1 σ H1 _ I1 q1) fun vl s2 ⟨l, H2, I2, pl, q2⟩ => thn (hu.run pins s2 σ H2 _ I2 q2) fun vu s3 ⟨w, H3, I3, pu, q3⟩ => ?_)))
  rw [evalPart_none]
  refine wpAny_pure ?_
  have I4 : Inv X pins σ H3 { s3 with heap := s3.heap.push { cls := .type "slice", data := .fields #[vl, vu, .none] } } := I3.kept (t' := s3.toks) fun b ob q => Heap.get?_push_of_some _ q
  obtain ⟨la, lb, xs, ys, a, c, rfl, rfl, rfl, rfl, h1, h2, h3, h4, h5, h6, h7, q⟩ := q3
  cases r1
  cases r
  have ra : RelV (.int a) vl := by
    cases pl with
    | int _ t => exact ⟨t, rfl⟩
  have rc : RelV (.int c) vu := by
    cases pu with
    | int _ t => exact ⟨t, rfl⟩
  refine wpAny_bind (wpAny_standAt (wpAny_bind (wpAny_holding ?_)))
  refine set_slice (s := { s3 with heap := s3.heap.push { cls := .type "slice", data := .fields #[vl, vu, .none] } }) (sl := s3.heap.objs.size) I4 h1 h2 h3 (Heap.IsSliceOf.new ..) ra rc h4 h5 h6 h7 fun s' I' => ?_
  exact wpAny_release ⟨σ, _, I', q⟩
theorem r_gsli {v : V} {σ : L2.St} {H : Hp} {Q : L2.St → Hp → Prop} {to : TE} {tl th : TO} (h : to σ H fun o H1 => tl σ H1 fun lo H2 => th σ H2 fun hi H3 => ∃ (l b : Addr) (xs ys : List V) (a c : Int), o = .ref l ∧ v = .ref b ∧ lo = some a ∧ hi = some c ∧
  H3 l = some (.lst xs) ∧ H3 b = some (.lst ys) ∧ l ≠ b ∧ 0 ≤ a ∧ a ≤ c ∧ c ≤ xs.length ∧ xs.length + ys.length ≤ sizeLine ∧ Q σ (upd H3 l (.lst (xs.take a.toNat ++ ys ++ xs.drop c.toNat)))) : gSli to tl th v σ H Q := h
end Dk

/-! isinstance of a caught error that has fields -/
namespace Dk
open PySem PySem.Spec PyProof.Rows L2
def rIsED (K : PySem.W.Frag) (D a : Addr) (cls : Value) (d : Option Addr) : List V → Hp → VK → Prop := fun xs H Q => cls = .ref D ∧ ∃ (dd : Addr) (fs : List (Str × V)) (c : V) (cv : Value) (b : Bool), d = some dd ∧ H dd = some (.xd fs) ∧ xs = [.ref a, c] ∧ (∀ u, RelV c u → u = cv) ∧ PySem.W.kitOne K (.ref D) cv = some b ∧ Q (.bl b) H
theorem call_isED {X : Cx} {a D : Addr} {oe : Obj} {cls : Value} {d : Option Addr} {pn : List (Addr × Obj)} (C : ExcC X.K D) (hz : Zc cls d oe) (hf : ∃ vs, oe.data = .fields vs) : CallR (X.suite a ((a, oe) :: pn)) (.builtin "isinstance") (rIsED X.K D a cls d) := by
  intro pins s σ H xs us Q I r h
  obtain ⟨ec, dd, fs, c, cv, b, ed, ea, rfl, hcv, e, q⟩ := h
  subst ec ed
  cases r with
  | cons rx rr =>
    cases rr with
    | cons rt rr =>
      cases rr
      cases rx
      have ec := hcv _ rt
      subst ec
      obtain ⟨hget, _⟩ := I.pin (a, oe) (List.mem_append_left _ List.mem_cons_self)
      obtain ⟨vs, hd⟩ := hf
      have hx : ObjOk X.prog X.w H s.heap dd (.xd fs) := I.hok dd _ ea
      obtain ⟨mA, hns, hr⟩ := hx
      obtain ⟨od, ho, hl⟩ := lookIn_ns hns
      have J : PySem.W.InstAt s.heap a oe D (some od) := ⟨hget, hz.1, by unfold PySem.W.notCls; rw [hd] <;> rfl, by rw [hz.2]; exact ho⟩
      have hcl : (PySem.W.clsIn X.K D).isSome = true := by
        obtain ⟨cdD, hcD, _⟩ := PySem.W.any_some C.hd
        rw [hcD]; rfl
      exact PySem.W.kia_one (PySem.W.kitx_exc hcl C.hg C.hk C.hs C.ha C.hn C.ht C.hm) I.kIn J e (fun z => nomatch z) fun tk => ⟨.bl b, H, I.kept (t' := tk) fun _ _ z => z, rfl, q⟩
theorem r_isED {K : PySem.W.Frag} {D a dd : Addr} {cls : Value} {d : Option Addr} {fs : List (Str × V)} {c : V} {cv : Value} {b : Bool} {H : Hp} {Q : VK} (h1 : cls = .ref D) (h2 : d = some dd) (h3 : H dd = some (.xd fs)) (h4 : ∀ u, RelV c u → u = cv) (h5 : PySem.W.kitOne K (.ref D) cv = some b) (q : Q (.bl b) H) : rIsED K D a cls d [.ref a, c] H Q :=
  ⟨h1, dd, fs, c, cv, b, h2, h3, rfl, h4, h5, q⟩
end Dk

/-! more rules: keywords inside a try, dicts, locks, a few methods -/
namespace Dk
open PySem PySem.Spec PyProof.Rows L2 LiI StX
section
variable {X : Cx} {CX : CXT} {k : Nat} {f : Addr} {fd : FuncData} {ps ks : List Str} {sp : Sp} {E : L2.St → XK} {x : Str} {p pos : Pos} {kws : List Keyword} {tk : TA} {g : List Value → List Value → List Value} {gV : List V → List V → List V}
def tCallKS (sp : Sp) (gV : List V → List V → List V) (E : L2.St → XK) (tk : TA) : TE := fun σ H Q => tk σ H fun zs H2 => sp (gV [] zs) H2 Q (E σ)
theorem pe_callKS (F : FnOk X.prog X.w X.K X.mg X.base CX k f fd ps sp) (hr : Room k X.A) (hg : Gl X x) (hm : X.mg x = some (.ref f)) (hk : PySem.W.keepIn X.K (.ref f) = true) (hb : KBinds X.K fd ps ks g gV) (hx : ∀ σ, PassesAt CX X σ (E σ))
    (hkw : PK X kws tk) (hall : (backToKw pos (keywordEach kws X.env)).all (·.1.isSome) = true := by rfl) (hks : (backToKw pos (keywordEach kws X.env)).filterMap (·.1) = ks := by rfl)
    (hdb : (x == ("__debug__" : Str)) = false := by decide)
    (hpl : ((backTo pos (starEach [] X.env)).any (·.1) || (backToKw pos (keywordEach kws X.env)).any (·.1.isNone)) = false := by rfl) :
    PE X (.Call (.Name x p) [] kws pos) (tCallKS sp gV E tk) := by
  refine ⟨fun pins s σ H Q I h => ?_⟩
  refine wpAny_Call_Name_kw (ld_glob I hg hm ?_ hdb)
  refine PySem.W.callWith_KW0 (h₀ := X.base) I.ok.mod.kin hk hall (thn (hkw.run pos pins s σ H _ I h) fun ws s2 ⟨zs, H2, I2, rz, q2⟩ => ⟨I2.kIn, ?_⟩) hpl
  rw [hks]
  have r2 := hb.rel (us := []) (vs := []) .nil rz
  have hl : (g [] ws).length = ps.length := by rw [← r2.length]; exact F.len _ _ _ _ q2
  refine wpAny_call (codeAny_mono (F.run X.A X.stack s2 H2 ⟨[], ks.zip ws⟩ (g [] ws) (gV [] zs) Q (E σ) hr I2.env0 (hb.to s2 [] ws I2.kIn hl) r2 q2) fun r s' hq => ?_)
  cases r with
  | error e => exact hx σ pins H2 s2 e s' I2 hq
  | ok fl =>
    cases fl with
    | ret u => exact I2.after hq
    | next => exact False.elim hq
    | brk => exact False.elim hq
    | cont => exact False.elim hq
theorem r_callKS {σ : L2.St} {H : Hp} {Q : VK} (h : tk σ H fun zs H2 => sp (gV [] zs) H2 Q (E σ)) : tCallKS sp gV E tk σ H Q := h
end
section
variable {K : PySem.W.Frag} {td ty te to : TE} {σ : L2.St} {H : Hp} {Q : VK} {v x y : V} {D : Ends}
theorem r_chain {r r' : R2} {ta tb tc : TE} (h : ta σ H fun x H1 => tb σ H1 fun y H2 => r x y H2 fun z H3 => ∃ k, z = .bl k ∧ (if k = true then tc σ H3 fun w' H4 => r' y w' H4 Q else Q (.bl false) H3)) : tChain r r' ta tb tc σ H Q := h
theorem r_dget (h : td σ H fun x H1 => ty σ H1 fun y H2 => ∃ a v, x = .ref a ∧ DGet H2 a y (some v) ∧ Q v H2) : tDGet td ty σ H Q := h
theorem r_din (h : ty σ H fun y H1 => td σ H1 fun x H2 => ∃ a o, x = .ref a ∧ DGet H2 a y o ∧ Q (.bl o.isSome) H2) : tDIn ty td σ H Q := h
theorem r_dnotin (h : ty σ H fun y H1 => td σ H1 fun x H2 => ∃ a o, x = .ref a ∧ DGet H2 a y o ∧ Q (.bl (!o.isSome)) H2) : tDNotIn ty td σ H Q := h
theorem r_lock {t : TS} (h : ∃ d u, H d = some u ∧ Mut (some u) ∧ ∀ od, t ⟨fun σ' H' => H' d = some (.frz od u) ∧ D.nx σ' (upd H' d u), fun v H' => H' d = some (.frz od u) ∧ D.rt v (upd H' d u), fun σ' H' => H' d = some (.frz od u) ∧ D.bk σ' (upd H' d u), fun σ' H' => H' d = some (.frz od u) ∧ D.ct σ' (upd H' d u)⟩ σ (upd H d (.frz od u))) : tLock t D σ H := h
theorem r_items (h : te σ H fun x H1 => rItemsL x H1 Q) : tListItems te σ H Q := h
theorem r_bits (h : to σ H fun x H1 => ∃ i, x = .int i ∧ Q (.int (Builtin.Int.intBits i : Nat)) H1) : tBits to σ H Q := h
theorem r_starC {t : TA} {QA : List V → Hp → Prop} (h : te σ H fun x H1 => ∃ p xs, x = V.ref p ∧ (SqT K H1 p xs ∨ SqL K H1 p xs) ∧ t σ H1 fun ys H2 => QA (xs ++ ys) H2) : tStar K te t σ H QA := h
theorem r_forKo {g : TG} {tb : TS} (h : td σ H fun x H1 => ∃ d o, x = .ref d ∧ ((∃ kvs, H1 d = some (.frz o (.dK kvs)) ∧ LoopW (Itk d o kvs) g tb D σ H1) ∨ ∃ kvs, H1 d = some (.frz o (.dT kvs)) ∧ LoopW (Itkt d o kvs) g tb D σ H1)) : tFor (iKeys td) g tb D σ H := h
end
/-- l.index(x, k) -/
def rIndexD3 (K : PySem.W.Frag) : V → List V → Hp → VK → Prop := fun x xs H Q => ∃ (a : Addr) (y : V) (d : PyData) (ds : List PyData) (j : Nat) (z : PyData) (k : Int), x = V.ref a ∧ xs = [y, .int k] ∧ Dp K H (V.ref a) (.list ds) ∧ Dp K H y d ∧
  SeqAt.shaped (.list ds) = true ∧ SeqAt.shaped d = true ∧ ds[j]? = some z ∧ PyData.eqv z d = true ∧ 0 ≤ k ∧ k ≤ (j : Int) ∧ (∀ (m : Nat) (z' : PyData), k ≤ (m : Int) → m < j → ds[m]? = some z' → PyData.eqv z' d = false) ∧ Q (.int (j : Nat)) H
theorem mt_indexD3 {X : Cx} (hu : X.A.units + 65 < cLine) : MtR X "list.index" (rIndexD3 X.K) := by
  intro pins s σ H x xs v us Q I rx rxs h
  obtain ⟨a, y, d, ds, j, z, k, rfl, rfl, hl, hy, sl, sd, hz, hzj, k0, kj, hno, q⟩ := h
  cases rx
  cases rxs with
  | cons ry rt =>
    rename_i uy ut
    cases rt with
    | cons rk rt =>
    rename_i uk ut
    cases rt
    obtain ⟨tk, rfl⟩ := rk
    obtain ⟨bs, r1⟩ := Dp.reads I d y uy hy ry
    have hxs : PyData.canLayAll0 ds = true := SeqAt.canLay_of_shaped sl
    have hroom : X.A.units + 1 + min (PyData.depthAll ds) d.depth < cLine := room_in_shaped sd hu
    cases hl with
    | lst hs ha =>
      obtain ⟨its, rv, ⟨⟨cls, dd, data, sls⟩, n, ho, hc, hdn, hdt⟩, hlen⟩ := I.list hs
      simp only at hc hdt
      subst hc hdt
      obtain ⟨as, h4⟩ := Dp.readsAll I ds _ its ha rv
      have hn : its.length = ds.length := SeqAt.ReadsAll.length ds its as h4
      have hmap : its.map (SeqAt.readOf s.heap) = ds := SeqAt.readsAll_map ds its as hxs h4
      have hvl := rv.length
      have hsl := sizeLine_eq
      obtain ⟨hjd, _⟩ := List.getElem?_eq_some_iff.mp hz
      have hjl : j < its.length := by omega
      have hj : j < its.toArray.size := by simpa using hjl
      have at_ : ∀ (m : Nat) (hm : m < its.toArray.size) (z' : PyData), ds[m]? = some z' → SeqAt.readOf s.heap its.toArray[m] = z' := by
        intro m hm z' hz'
        have hml : m < its.length := by simpa using hm
        rw [← hmap, List.getElem?_map, List.getElem?_eq_getElem hml] at hz'
        have e1 : SeqAt.readOf s.heap its[m] = z' := Option.some.inj (show some (SeqAt.readOf s.heap its[m]) = some z' from hz')
        simpa using e1
      have sf : SeqAt.searchFrom k its.toArray.size = k.toNat := SeqAt.searchFrom_nonneg k0 _
      have eqs := SeqAt.items_eqAt (A := X.A) (vs := its.toArray) (show ReadsAll s.heap its.toArray.toList ds as from h4) r1 hxs (SeqAt.canLay_of_shaped sd) hroom
      refine call_meets PySem.F.slot_list_index ⟨_, ho, rfl⟩ PySem.F.entry_list_index (PySem.F.args_list_index_3 _ _ _)
        (SeqAt.list_index3_found a its.toArray n dd sls uy (fun m => PyData.eqv (SeqAt.readOf s.heap (its.toArray[m]?.getD .none)) d) k tk j hj (by rw [sf]; omega) (by omega) ?_ ?_) ⟨ho, fun m hm => ?_, ?_⟩
      · show PyData.eqv (SeqAt.readOf s.heap (its.toArray[j]?.getD .none)) d = true
        rw [Array.getElem?_eq_getElem hj, Option.getD_some, at_ j hj z hz]
        exact hzj
      · intro m hm hkm hmj
        have hmd : m < ds.length := by omega
        have hz' : ds[m]? = some ds[m] := List.getElem?_eq_getElem hmd
        show PyData.eqv (SeqAt.readOf s.heap (its.toArray[m]?.getD .none)) d = false
        rw [Array.getElem?_eq_getElem hm, Option.getD_some, at_ m hm _ hz']
        exact hno m _ (by rw [sf] at hkm; omega) hmj hz'
      · show SeqAt.EqAt _ _ _ _ (PyData.eqv (SeqAt.readOf s.heap (its.toArray[m]?.getD .none)) d)
        rw [Array.getElem?_eq_getElem hm, Option.getD_some]
        exact eqs _ (Array.getElem_mem hm)
      · exact ⟨.int (j : Nat), H, I.tok _, ⟨_, rfl⟩, q⟩
theorem r_indexSg3 {K : PySem.W.Frag} {H : Hp} {Q : VK} {a : Addr} {xs : List V} {v : V} {m : List Tl.Sg} {x : Tl.Sg} {j : Nat} {k : Int} (hl : SqL K H a xs) (hm : SgL K H xs m) (hv : SgV K H v x) (hj : m[j]? = some x) (k0 : 0 ≤ k) (kj : k ≤ (j : Int)) (hno : ∀ i, i < j → m[i]? ≠ some x) (q : Q (.int (j : Nat)) H) :
    rIndexD3 K (.ref a) [v, .int k] H Q := by
  refine ⟨a, v, sgD x, m.map sgD, j, sgD x, k, rfl, rfl, .lst hl hm.dps, hv.dp, sgs_shaped m, sg_shaped x, by rw [List.getElem?_map, hj]; rfl, by rw [sg_eqv]; simp, k0, kj, fun i z _ hi hz => ?_, q⟩
  rw [List.getElem?_map] at hz
  obtain ⟨y, hy, rfl⟩ := Option.map_eq_some_iff.mp hz
  rw [sg_eqv]
  refine decide_eq_false fun e => hno i hi ?_
  rw [hy, e]
def p0 {α : Type} : List α → List α → List α
  | [], [a] => [a]
  | _, _ => []
theorem p0_rel {vs zs : List V} {us ws : List Value} (r : Vals vs us) (q : Vals zs ws) : Vals (p0 vs zs) (p0 us ws) := by
  cases r with
  | cons => exact .nil
  | nil => rcases q with _ | ⟨a, _ | _⟩
           · exact .nil
           · exact .cons a .nil
           · exact .nil
def p2310 {α : Type} : List α → List α → List α
  | [], [a, b, c, d] => [c, d, b, a]
  | _, _ => []
theorem p2310_rel {vs zs : List V} {us ws : List Value} (r : Vals vs us) (q : Vals zs ws) : Vals (p2310 vs zs) (p2310 us ws) := by
  cases r with
  | cons => exact .nil
  | nil => rcases q with _ | ⟨a, _ | ⟨b, _ | ⟨c, _ | ⟨d, _ | _⟩⟩⟩⟩
           · exact .nil
           · exact .nil
           · exact .nil
           · exact .nil
           · exact .cons c (.cons d (.cons b (.cons a .nil)))
           · exact .nil
theorem r_m1 {r : V → List V → Hp → VK → Prop} {σ : L2.St} {H : Hp} {Q : VK} {to te : TE} (h : to σ H fun x H1 => (∃ a, x = .str a) ∧ te σ H1 fun y H2 => r x [y] H2 Q) : tM1 r to te σ H Q := h
theorem r_lcTo {K : PySem.W.Frag} {tl : TE} {g : TG} {tt : TT} {te : TE} {vs : List Nat} {σ : L2.St} {H : Hp} {Q : VK} (h : tl σ H fun x H1 => ∃ a, x = .ref a ∧ (∃ xs, SqT K H1 a xs) ∧ ∀ D, H1 D = none → ∃ W : Nat → Nat → Hp → Prop, (∃ m, W 0 m (upd H1 D (.lst []))) ∧ ∀ i m H, W i m H →
  ((Itt K a).stop i H ∧ Q (.ref D) H) ∨ ((Itt K a).go i H ∧ ∃ Nx : Hp → Prop, (∀ H', Nx H' → ∃ m', m' < m ∧ W (i + 1) m' H') ∧ ∀ x H', (Itt K a).yld i H x H' → g x (wipe σ vs) H' fun σ2 H2 => wipe σ2 vs = wipe σ vs ∧ tt σ2 H2 fun b H3 =>
    if b = true then te σ2 H3 fun y H4 => ∃ acc, H4 D = some (.lst acc) ∧ acc.length < sizeLine ∧ Nx (upd H4 D (.lst (acc ++ [y]))) else Nx H3)) : tLc (iTup K tl) g tt te vs σ H Q := h
theorem l_lcT {K : PySem.W.Frag} {a : Addr} {xs : List V} {g : TG} {tt : TT} {te : TE} {vs : List Nat} {σ : L2.St} {H1 : Hp} {Qd : Addr → Hp → Prop} (hs0 : SqT K H1 a xs) (Pv : Addr → Nat → Hp → Prop) (h0 : ∀ D, H1 D = none → Pv D 0 (upd H1 D (.lst []))) (hl : ∀ D i H, Pv D i H → SqT K H a xs)
    (hs : ∀ D (i : Nat) x H, H1 D = none → xs[i]? = some x → Pv D i H → g x (wipe σ vs) H fun σ2 H2 => wipe σ2 vs = wipe σ vs ∧ tt σ2 H2 fun b H3 =>
      if b = true then te σ2 H3 fun y H4 => ∃ acc, H4 D = some (.lst acc) ∧ acc.length < sizeLine ∧ Pv D (i + 1) (upd H4 D (.lst (acc ++ [y]))) else Pv D (i + 1) H3) (hd : ∀ D H, H1 D = none → Pv D xs.length H → Qd D H) :
    ∃ b, V.ref a = .ref b ∧ (∃ xs, SqT K H1 b xs) ∧ ∀ D, H1 D = none → ∃ W : Nat → Nat → Hp → Prop, (∃ m, W 0 m (upd H1 D (.lst []))) ∧ ∀ i m H, W i m H →
  ((Itt K b).stop i H ∧ Qd D H) ∨ ((Itt K b).go i H ∧ ∃ Nx : Hp → Prop, (∀ H', Nx H' → ∃ m', m' < m ∧ W (i + 1) m' H') ∧ ∀ x H', (Itt K b).yld i H x H' → g x (wipe σ vs) H' fun σ2 H2 => wipe σ2 vs = wipe σ vs ∧ tt σ2 H2 fun b H3 =>
    if b = true then te σ2 H3 fun y H4 => ∃ acc, H4 D = some (.lst acc) ∧ acc.length < sizeLine ∧ Nx (upd H4 D (.lst (acc ++ [y]))) else Nx H3) :=
  ⟨a, rfl, ⟨xs, hs0⟩, fun D hD => lc_tup (Pv D) (h0 D hD) (fun i H _ p => hl D i H p) (fun i x H hx p => hs D i x H hD hx p) fun H p => hd D H hD p⟩
/-- over the keys of a locked dict -/
theorem l_K {d : Addr} {o : Obj} {kvs : List (Key × V)} {g : TG} {tb : TS} {D : Ends} {σ : L2.St} {H : Hp} (hd : H d = some (.frz o (.dK kvs))) (Pv : Nat → L2.St → Hp → Prop) (p0 : Pv 0 σ H) (hl : ∀ i σ H, Pv i σ H → H d = some (.frz o (.dK kvs)))
    (ht : ∀ i k v σ H, kvs[i]? = some (k, v) → Pv i σ H → g (kV k) σ H fun σ2 H2 => tb { D with nx := Pv (i + 1), ct := Pv (i + 1), bk := D.nx } σ2 H2)
    (hn : ∀ σ H, Pv kvs.length σ H → D.nx σ H) :
    ∃ d' o', V.ref d = .ref d' ∧ ((∃ kvs, H d' = some (.frz o' (.dK kvs)) ∧ LoopW (Itk d' o' kvs) g tb D σ H) ∨ ∃ kvs, H d' = some (.frz o' (.dT kvs)) ∧ LoopW (Itkt d' o' kvs) g tb D σ H) := by
  refine ⟨d, o, rfl, .inl ⟨kvs, hd, for_it walk_keys Pv p0 (fun i σ H _ p => hl i σ H p) (fun i v σ H H' hi p y => ?_) hn⟩⟩
  obtain ⟨rfl, k, w, hk, rfl⟩ := y
  exact ht i k w σ _ hk p
theorem r_lcZo {K : PySem.W.Frag} {ta : TA} {g : TG} {tt : TT} {te : TE} {vs : List Nat} {σ : L2.St} {H : Hp} {Q : VK} (h : ta σ H fun us H1 => ∃ k1 k2 : Zp.Kd, us = [k1.v, k2.v] ∧ (∃ xs, k1.has K H1 xs) ∧ (∃ ys, k2.has K H1 ys) ∧ ∀ D, H1 D = none → ∃ W : Nat → Nat → Hp → Prop, (∃ m, W 0 m (upd H1 D (.lst []))) ∧ ∀ i m H, W i m H →
  ((Zp.ItzK K k1 k2).stop i H ∧ Q (.ref D) H) ∨ ((Zp.ItzK K k1 k2).go i H ∧ ∃ Nx : Hp → Prop, (∀ H', Nx H' → ∃ m', m' < m ∧ W (i + 1) m' H') ∧ ∀ x H', (Zp.ItzK K k1 k2).yld i H x H' → g x (wipe σ vs) H' fun σ2 H2 => wipe σ2 vs = wipe σ vs ∧ tt σ2 H2 fun b H3 =>
    if b = true then te σ2 H3 fun y H4 => ∃ acc, H4 D = some (.lst acc) ∧ acc.length < sizeLine ∧ Nx (upd H4 D (.lst (acc ++ [y]))) else Nx H3)) : tLc (Zp.iZipK K ta) g tt te vs σ H Q := h
theorem l_lcZ {K : PySem.W.Frag} (k1 k2 : Zp.Kd) {xs ys : List V} {g : TG} {tt : TT} {te : TE} {vs : List Nat} {σ : L2.St} {H1 : Hp} {Qd : Addr → Hp → Prop} (hx : k1.has K H1 xs) (hy : k2.has K H1 ys) (Pv : Addr → Nat → Hp → Prop) (h0 : ∀ D, H1 D = none → Pv D 0 (upd H1 D (.lst [])))
    (hl : ∀ D i H, Pv D i H → k1.has K H xs ∧ k2.has K H ys)
    (hs : ∀ D (i : Nat) x y H p, H1 D = none → xs[i]? = some x → ys[i]? = some y → Pv D i H → H p = none → g (.ref p) (wipe σ vs) (upd H p (.tup [x, y])) fun σ2 H2 => wipe σ2 vs = wipe σ vs ∧ tt σ2 H2 fun b H3 =>
      if b = true then te σ2 H3 fun y H4 => ∃ acc, H4 D = some (.lst acc) ∧ acc.length < sizeLine ∧ Pv D (i + 1) (upd H4 D (.lst (acc ++ [y]))) else Pv D (i + 1) H3) (hd : ∀ D H, H1 D = none → Pv D (min xs.length ys.length) H → Qd D H) :
    ∃ k1' k2' : Zp.Kd, [k1.v, k2.v] = [k1'.v, k2'.v] ∧ (∃ xs, k1'.has K H1 xs) ∧ (∃ ys, k2'.has K H1 ys) ∧ ∀ D, H1 D = none → ∃ W : Nat → Nat → Hp → Prop, (∃ m, W 0 m (upd H1 D (.lst []))) ∧ ∀ i m H, W i m H →
  ((Zp.ItzK K k1' k2').stop i H ∧ Qd D H) ∨ ((Zp.ItzK K k1' k2').go i H ∧ ∃ Nx : Hp → Prop, (∀ H', Nx H' → ∃ m', m' < m ∧ W (i + 1) m' H') ∧ ∀ x H', (Zp.ItzK K k1' k2').yld i H x H' → g x (wipe σ vs) H' fun σ2 H2 => wipe σ2 vs = wipe σ vs ∧ tt σ2 H2 fun b H3 =>
    if b = true then te σ2 H3 fun y H4 => ∃ acc, H4 D = some (.lst acc) ∧ acc.length < sizeLine ∧ Nx (upd H4 D (.lst (acc ++ [y]))) else Nx H3) :=
  ⟨k1, k2, rfl, ⟨_, hx⟩, ⟨_, hy⟩, fun D hD => lc_it (Zp.walk_zipK rfl) (Pv D) (h0 D hD) (fun i H _ p => hl D i H p) (fun i v H H' hi p y => by
    obtain ⟨T, a, b, rfl, hT, rfl, ha, hb⟩ := y
    exact hs D i a b H T hD ha hb p hT) fun H p => hd D H hD p⟩
/-- over zip(tuple, tuple) -/
theorem l_ZK {K : PySem.W.Frag} (k1 k2 : Zp.Kd) {xs ys : List V} {g : TG} {tb : TS} {D : Ends} {σ : L2.St} {H : Hp} (hx : k1.has K H xs) (hy : k2.has K H ys) (Pv : Nat → L2.St → Hp → Prop) (p0 : Pv 0 σ H) (hl : ∀ i σ H, Pv i σ H → k1.has K H xs ∧ k2.has K H ys)
    (ht : ∀ i x y σ H p, xs[i]? = some x → ys[i]? = some y → Pv i σ H → H p = none → g (.ref p) σ (upd H p (.tup [x, y])) fun σ2 H2 => tb { D with nx := Pv (i + 1), ct := Pv (i + 1), bk := D.nx } σ2 H2)
    (hd : ∀ σ H, Pv (min xs.length ys.length) σ H → D.nx σ H) :
    ∃ k1' k2' : Zp.Kd, [k1.v, k2.v] = [k1'.v, k2'.v] ∧ (∃ xs, k1'.has K H xs) ∧ (∃ ys, k2'.has K H ys) ∧ LoopW (Zp.ItzK K k1' k2') g tb D σ H := by
  refine ⟨k1, k2, rfl, ⟨_, hx⟩, ⟨_, hy⟩, for_it (Zp.walk_zipK (xs := xs) (ys := ys) rfl) Pv p0 (fun i σ H _ p => hl i σ H p) (fun i v σ H H' hi p yy => ?_) hd⟩
  obtain ⟨T, a, b, rfl, hT, rfl, ha, hb⟩ := yy
  exact ht i a b σ H T ha hb p hT
/-! ### a class of two fields -/
section
variable {K : PySem.W.Frag} {σ : L2.St} {H : Hp} {C : Addr} {f g : Str} {v u : V} {W : XK}
def spInit2 (C : Addr) (f g : Str) : Sp := fun vs H Q _ => ∃ (a : Addr) (v u : V), vs = [.ref a, v, u] ∧ H a = some (exo a C none) ∧
  ∀ dx, H dx = none → dx ≠ a → Q .non (upd (upd (upd H dx (exd dx [(f, v)])) a (exo a C (some dx))) dx (exd dx [(g, u), (f, v)]))
theorem r_raise2 (q : ∀ d, H d = none → W (.ref C) (some d) (upd H d (.xd [(g, u), (f, v)]))) :
    ([v, u] : List V).length ≤ 1000 ∧ ∀ a, H a = none → spInit2 C f g (.ref a :: ([v, u] ++ [])) (upd H a (exo a C none))
      (fun w H2 => w = .non ∧ ∃ (d : Addr) (fs : List (Str × V)), H2 a = some (exo a C (some d)) ∧ H2 d = some (exd d fs) ∧ H d = none ∧ W (.ref C) (some d) (upd (del H2 a) d (.xd fs))) (fun _ _ _ => False) := by
  refine ⟨by show 2 ≤ 1000; decide, fun a ha => ⟨a, v, u, rfl, upd_same, fun dx hdx hne => ⟨rfl, dx, [(g, u), (f, v)], ?_, upd_same, ?_, ?_⟩⟩⟩
  · rw [upd_ne hne.symm]
    exact upd_same
  · rw [upd_ne hne] at hdx
    exact hdx
  · rw [upd_ne hne] at hdx
    have e : upd (del (upd (upd (upd (upd H a (exo a C none)) dx (exd dx [(f, v)])) a (exo a C (some dx))) dx (exd dx [(g, u), (f, v)])) a) dx (.xd [(g, u), (f, v)]) = upd H dx (.xd [(g, u), (f, v)]) := by
      funext b
      by_cases h1 : b = dx
      · rw [h1, upd_same, upd_same]
      · rw [upd_ne h1, upd_ne h1]
        by_cases h2 : b = a
        · rw [h2, del_same, ha]
        · rw [del_ne h2, upd_ne h1, upd_ne h2, upd_ne h1, upd_ne h2]
    rw [e]
    exact q dx hdx
end
/-- for k in range(a, a + n) -/
theorem l_R2 {a n : Nat} {b : Int} {g : TG} {tb : TS} {σ : L2.St} {H : Hp} {D : Ends} (hb : b = ((a + n : Nat) : Int)) (h2 : a + n ≤ 1000000) (Pv : Nat → L2.St → Hp → Prop) (p0 : Pv 0 σ H)
    (ht : ∀ (i : Nat) σ H, i < n → Pv i σ H → g (.int ((a + i : Nat) : Int)) σ H fun σ2 H2 => tb { D with nx := Pv (i + 1), ct := Pv (i + 1), bk := D.nx } σ2 H2) (hd : ∀ σ H, Pv n σ H → D.nx σ H) :
    ∃ i j : Int, [V.int (a : Nat), V.int b] = [.int i, .int j] ∧ (-(2 ^ 62) ≤ i ∧ i < 2 ^ 62 ∧ -(2 ^ 62) ≤ j ∧ j < 2 ^ 62) ∧ LoopW (Itr i (j - i).toNat) g tb D σ H := by
  subst hb
  refine ⟨a, ((a + n : Nat) : Int), rfl, ⟨by omega, by omega, by omega, by omega⟩, for_range Pv p0 (fun i σ H hi p => ?_) fun σ H p => hd σ H ?_⟩
  · have z := ht i σ H (by omega) p
    rw [show ((a : Nat) : Int) + (i : Nat) = ((a + i : Nat) : Int) by omega]
    exact z
  · have e : (((a + n : Nat) : Int) - ((a : Nat) : Int)).toNat = n := by omega
    rw [e] at p
    exact p
/-! ### over a list or a tuple -/
def iEith (K : PySem.W.Frag) (tl : TE) : TI := fun σ H R => tl σ H fun x H1 => ∃ a, x = .ref a ∧ (((∃ xs, SqL K H1 a xs) ∧ R (Itl K a) H1) ∨ ((∃ xs, SqT K H1 a xs) ∧ R (Itt K a) H1))
theorem pi_eith {X : Cx} {tg l : Expr} {tl : TE} (hl : PE X l tl) : PI X tg l (iEith X.K tl) := by
  refine ⟨fun pins s σ H R I h => ?_⟩
  refine thn (hl.run pins s σ H _ I h) fun v s1 ⟨x, H1, I1, r1, q1⟩ => ?_
  obtain ⟨a, e, q1⟩ := q1
  subst e
  cases r1
  rcases q1 with ⟨⟨xs, hq⟩, q⟩ | ⟨⟨xs, hq⟩, q⟩
  · obtain ⟨its, rv, p, hz⟩ := I1.list hq
    refine wpAny_pyIter_list p.isList ?_
    refine ⟨s1.heap.objs.size, [s1.heap.objs.size], _, _, H1, rfl, I1.kept (t' := s1.toks) fun b o e => Heap.get?_push_of_some _ e, turn_list a _, ⟨_, Heap.get?_push_size _ rfl, rfl, rfl⟩, fun b hb => ?_, q⟩
    have e : b = s1.heap.objs.size := by simpa using hb
    subst e
    exact I1.fpOk (Nat.le_refl _) (I1.hok.fresh (Nat.le_refl _))
  · obtain ⟨its, rv, p, hz⟩ := I1.tuple hq
    refine wpAny_pyIter_tuple (show s1.heap.IsTuple a its.toArray from p) ?_
    refine ⟨s1.heap.objs.size, [s1.heap.objs.size], _, _, H1, rfl, I1.kept (t' := s1.toks) fun b o e => Heap.get?_push_of_some _ e, turn_tuple a _, ⟨_, Heap.get?_push_size _ rfl, rfl, rfl⟩, fun b hb => ?_, q⟩
    have e : b = s1.heap.objs.size := by simpa using hb
    subst e
    exact I1.fpOk (Nat.le_refl _) (I1.hok.fresh (Nat.le_refl _))
section
variable {K : PySem.W.Frag} {tl : TE} {g : TG} {tb : TS} {D : Ends} {σ : L2.St} {H : Hp}
theorem r_forEi (h : tl σ H fun x H1 => ∃ a, x = .ref a ∧ (((∃ xs, SqL K H1 a xs) ∧ LoopW (Itl K a) g tb D σ H1) ∨ ((∃ xs, SqT K H1 a xs) ∧ LoopW (Itt K a) g tb D σ H1))) : tFor (iEith K tl) g tb D σ H := h
theorem l_EL {a : Addr} {xs : List V} (hs : SqL K H a xs) (Pv : Nat → L2.St → Hp → Prop) (p0 : Pv 0 σ H) (hl : ∀ i σ H, Pv i σ H → SqL K H a xs)
    (ht : ∀ i x σ H, xs[i]? = some x → Pv i σ H → g x σ H fun σ2 H2 => tb { D with nx := Pv (i + 1), ct := Pv (i + 1), bk := D.nx } σ2 H2) (hd : ∀ σ H, Pv xs.length σ H → D.nx σ H) :
    ∃ b, V.ref a = .ref b ∧ (((∃ xs, SqL K H b xs) ∧ LoopW (Itl K b) g tb D σ H) ∨ ((∃ xs, SqT K H b xs) ∧ LoopW (Itt K b) g tb D σ H)) := by
  obtain ⟨b, e, h1, h2⟩ := l_L hs Pv p0 hl ht hd
  exact ⟨b, e, .inl ⟨h1, h2⟩⟩
theorem l_ET {a : Addr} {xs : List V} (hs : SqT K H a xs) (Pv : Nat → L2.St → Hp → Prop) (p0 : Pv 0 σ H) (hl : ∀ i σ H, Pv i σ H → SqT K H a xs)
    (ht : ∀ i x σ H, xs[i]? = some x → Pv i σ H → g x σ H fun σ2 H2 => tb { D with nx := Pv (i + 1), ct := Pv (i + 1), bk := D.nx } σ2 H2) (hd : ∀ σ H, Pv xs.length σ H → D.nx σ H) :
    ∃ b, V.ref a = .ref b ∧ (((∃ xs, SqL K H b xs) ∧ LoopW (Itl K b) g tb D σ H) ∨ ((∃ xs, SqT K H b xs) ∧ LoopW (Itt K b) g tb D σ H)) := by
  obtain ⟨b, e, h1, h2⟩ := l_T hs Pv p0 hl ht hd
  exact ⟨b, e, .inr ⟨h1, h2⟩⟩
theorem r_inSg {Q : VK} {v : V} {p : Addr} {xs : List V} {x : Tl.Sg} {m : List Tl.Sg} (h1 : SgV K H v x) (hp : SqL K H p xs) (h2 : SgL K H xs m) (q : Q (.bl (decide (x ∈ m))) H) : rInD K v (.ref p) H Q := by
  exact ⟨_, _, h1.dp, .lst hp h2.dps, sg_shaped x, sgs_shaped m, by
    have e : ((m.map sgD).any fun z => PyData.eqv z (sgD x)) = decide (x ∈ m) := by
      rw [List.any_map, Bool.eq_iff_iff, List.any_eq_true, decide_eq_true_iff]
      constructor
      · rintro ⟨y, hy, e⟩
        rw [Function.comp_apply, sg_eqv, decide_eq_true_iff] at e
        rw [← e]
        exact hy
      · intro h
        exact ⟨x, h, by rw [Function.comp_apply, sg_eqv]; exact decide_eq_true rfl⟩
    rw [e]
    exact q⟩
end
section
variable {K : PySem.W.Frag} {a : Addr} {xs : List V} {g : TG} {tt : TT} {te : TE} {vs : List Nat} {σ : L2.St} {H1 : Hp} {Qd : Addr → Hp → Prop}
/-- what a comprehension over such a thing asks -/
def LcI (J : It) (g : TG) (tt : TT) (te : TE) (vs : List Nat) (σ : L2.St) (H1 : Hp) (Qd : Addr → Hp → Prop) : Prop := ∀ D, H1 D = none → ∃ W : Nat → Nat → Hp → Prop, (∃ m, W 0 m (upd H1 D (.lst []))) ∧ ∀ i m H, W i m H →
  (J.stop i H ∧ Qd D H) ∨ (J.go i H ∧ ∃ Nx : Hp → Prop, (∀ H', Nx H' → ∃ m', m' < m ∧ W (i + 1) m' H') ∧ ∀ x H', J.yld i H x H' → g x (wipe σ vs) H' fun σ2 H2 => wipe σ2 vs = wipe σ vs ∧ tt σ2 H2 fun b H3 =>
    if b = true then te σ2 H3 fun y H4 => ∃ acc, H4 D = some (.lst acc) ∧ acc.length < sizeLine ∧ Nx (upd H4 D (.lst (acc ++ [y]))) else Nx H3)
theorem r_lcEio {tl : TE} {H : Hp} {Q : VK} (h : tl σ H fun x H1 => ∃ a, x = .ref a ∧ (((∃ xs, SqL K H1 a xs) ∧ LcI (Itl K a) g tt te vs σ H1 fun D H => Q (.ref D) H) ∨ ((∃ xs, SqT K H1 a xs) ∧ LcI (Itt K a) g tt te vs σ H1 fun D H => Q (.ref D) H))) : tLc (iEith K tl) g tt te vs σ H Q := h
theorem l_lcEL (hs0 : SqL K H1 a xs) (Pv : Addr → Nat → Hp → Prop) (h0 : ∀ D, H1 D = none → Pv D 0 (upd H1 D (.lst []))) (hl : ∀ D i H, Pv D i H → SqL K H a xs)
    (hs : ∀ D (i : Nat) x H, H1 D = none → xs[i]? = some x → Pv D i H → g x (wipe σ vs) H fun σ2 H2 => wipe σ2 vs = wipe σ vs ∧ tt σ2 H2 fun b H3 =>
      if b = true then te σ2 H3 fun y H4 => ∃ acc, H4 D = some (.lst acc) ∧ acc.length < sizeLine ∧ Pv D (i + 1) (upd H4 D (.lst (acc ++ [y]))) else Pv D (i + 1) H3) (hd : ∀ D H, H1 D = none → Pv D xs.length H → Qd D H) :
    ∃ b, V.ref a = .ref b ∧ (((∃ xs, SqL K H1 b xs) ∧ LcI (Itl K b) g tt te vs σ H1 Qd) ∨ ((∃ xs, SqT K H1 b xs) ∧ LcI (Itt K b) g tt te vs σ H1 Qd)) := by
  obtain ⟨b, e, h1, h2⟩ := l_lcL hs0 Pv h0 hl hs hd
  exact ⟨b, e, .inl ⟨h1, h2⟩⟩
theorem l_lcET (hs0 : SqT K H1 a xs) (Pv : Addr → Nat → Hp → Prop) (h0 : ∀ D, H1 D = none → Pv D 0 (upd H1 D (.lst []))) (hl : ∀ D i H, Pv D i H → SqT K H a xs)
    (hs : ∀ D (i : Nat) x H, H1 D = none → xs[i]? = some x → Pv D i H → g x (wipe σ vs) H fun σ2 H2 => wipe σ2 vs = wipe σ vs ∧ tt σ2 H2 fun b H3 =>
      if b = true then te σ2 H3 fun y H4 => ∃ acc, H4 D = some (.lst acc) ∧ acc.length < sizeLine ∧ Pv D (i + 1) (upd H4 D (.lst (acc ++ [y]))) else Pv D (i + 1) H3) (hd : ∀ D H, H1 D = none → Pv D xs.length H → Qd D H) :
    ∃ b, V.ref a = .ref b ∧ (((∃ xs, SqL K H1 b xs) ∧ LcI (Itl K b) g tt te vs σ H1 Qd) ∨ ((∃ xs, SqT K H1 b xs) ∧ LcI (Itt K b) g tt te vs σ H1 Qd)) := by
  obtain ⟨b, e, h1, h2⟩ := l_lcT hs0 Pv h0 hl hs hd
  exact ⟨b, e, .inr ⟨h1, h2⟩⟩
end
/-- any of the two bits -/
theorem two_bits (x y a b : Nat) : decide (V.int (Builtin.bitAnd (Builtin.bitOr ((x : Int) / 2 ^ ((b : Int)).toNat) ((y : Int) / 2 ^ ((a : Int)).toNat)) 1) = V.int 0) = (!x.testBit b && !y.testBit a) := by
  have hx : ((x : Int) / 2 ^ ((b : Int)).toNat) = ((x >>> b : Nat) : Int) := by
    rw [Int.toNat_natCast, Nat.shiftRight_eq_div_pow]
    push_cast
    rfl
  have hy : ((y : Int) / 2 ^ ((a : Int)).toNat) = ((y >>> a : Nat) : Int) := by
    rw [Int.toNat_natCast, Nat.shiftRight_eq_div_pow]
    push_cast
    rfl
  rw [hx, hy, Bits.bitOr_pp (Int.natCast_nonneg _) (Int.natCast_nonneg _), Int.toNat_natCast, Int.toNat_natCast]
  have h1 : Builtin.bitAnd (((x >>> b ||| y >>> a : Nat)) : Int) 1 = (((x >>> b ||| y >>> a) &&& 1 : Nat) : Int) := by
    rw [PyProof.Rows.bitAnd_pp (Int.natCast_nonneg _) (by decide), Int.toNat_natCast]
    rfl
  rw [h1, Bool.eq_iff_iff, decide_eq_true_iff, Bool.and_eq_true]
  have e : (x >>> b ||| y >>> a).testBit 0 = (x.testBit b || y.testBit a) := by
    rw [Nat.testBit_or, Nat.testBit_shiftRight, Nat.testBit_shiftRight]
    rfl
  have e2 : ((x >>> b ||| y >>> a) &&& 1) = if (x >>> b ||| y >>> a).testBit 0 then 1 else 0 := by
    rw [Nat.and_one_is_mod, Nat.testBit_zero]
    rcases Nat.mod_two_eq_zero_or_one (x >>> b ||| y >>> a) with h | h <;> simp [h]
  rw [e2, e]
  cases x.testBit b <;> cases y.testBit a <;> simp
end Dk

/-! a box of draws of any shape; further rules -/
namespace Dk
open PySem PySem.Spec PyProof.Rows L2
/-- what a law's draws change (A), and how it stands -/
structure Box where
  A : Addr → Prop
  B : Hp → Prop
  live : ∀ H, B H → ∀ x, A x → ∃ o, H x = some o
  keep : ∀ H H', B H → (∀ x o, A x → H x = some o → H' x = some o) → B H'
/-- draws were made -/
structure Drw (b : Box) (H H' : Hp) : Prop where
  hh : ∀ x o, ¬ b.A x → H x = some o → H' x = some o
  st : b.B H'
/-- G: what is known for good, H: the heap -/
structure Wb (b : Box) (G H : Hp) : Prop where
  g : Ex G H
  n : ∀ x, b.A x → G x = none
  st : b.B H
section
variable {b : Box} {G H H1 H2 H' : Hp} {p l : Addr} {o : HO}
theorem Box.fresh (b : Box) (s : b.B H) (hp : H p = none) : ¬ b.A p := fun z => by
  obtain ⟨o, e⟩ := b.live _ s _ z
  rw [hp] at e
  cases e
theorem Box.ane (b : Box) {x : Addr} (na : ¬ b.A p) (a : b.A x) : x ≠ p := fun z => na (by rw [← z]; exact a)
theorem Box.up (b : Box) (s : b.B H) (e : Ex H H') : b.B H' := b.keep _ _ s fun x o _ h => e x o h
theorem Drw.refl (s : b.B H) : Drw b H H := ⟨fun _ _ _ h => h, s⟩
theorem Drw.trans (x : Drw b H H1) (y : Drw b H1 H2) : Drw b H H2 := ⟨fun x' o n h => y.hh _ _ n (x.hh _ _ n h), y.st⟩
theorem Drw.ex (s : b.B H) (e : Ex H H') : Drw b H H' := ⟨fun x o _ h => e x o h, b.up s e⟩
theorem Drw.then (x : Drw b H H1) (e : Ex H1 H2) : Drw b H H2 := x.trans (.ex x.st e)
theorem Drw.new (x : Drw b H H1) (hp : H1 p = none) : Drw b H (upd H1 p o) := x.then (Same.new (Same.refl _) hp)
theorem Drw.put (x : Drw b H H1) (hp : H p = none) (na : ¬ b.A p) : Drw b H (upd H1 p o) :=
  ⟨fun y u n e => by rw [upd_ne (ne_of_none e hp)]; exact x.hh y u n e, b.keep _ _ x.st fun y u a e => by rw [upd_ne (b.ane na a)]; exact e⟩
theorem Drw.at (x : Drw b H H1) (na : ¬ b.A p) (e : H p = some o) : H1 p = some o := x.hh _ _ na e
theorem Wb.of (s : b.B H) (e : Ex G H) (n : ∀ x, b.A x → G x = none) : Wb b G H := ⟨e, n, s⟩
theorem Wb.ex (w : Wb b G H) (e : Ex H H') : Wb b G H' := ⟨w.g.trans e, w.n, b.up w.st e⟩
theorem Wb.dr (w : Wb b G H) (d : Drw b H H') : Wb b G H' :=
  ⟨fun x o h => d.hh x o (fun a => by rw [w.n x a] at h; cases h) (w.g x o h), w.n, d.st⟩
theorem Wb.new (w : Wb b G H) (hp : H p = none) : Wb b (upd G p o) (upd H p o) :=
  ⟨fun x u h => by
    by_cases e : x = p
    · subst e; rw [upd_same] at h ⊢; exact h
    · rw [upd_ne e] at h ⊢; exact w.g x u h, fun x a => by
    rw [upd_ne (b.ane (b.fresh w.st hp) a)]; exact w.n x a, b.keep _ _ w.st fun x u a h => by rw [upd_ne (b.ane (b.fresh w.st hp) a)]; exact h⟩
theorem Wb.put (w : Wb b G H) (gp : G p = none) (na : ¬ b.A p) : Wb b G (upd H p o) :=
  ⟨fun x u h => by
    by_cases e : x = p
    · subst e; rw [gp] at h; cases h
    · rw [upd_ne e]; exact w.g x u h, w.n, b.keep _ _ w.st fun x u a h => by rw [upd_ne (b.ane na a)]; exact h⟩
theorem Wb.free (w : Wb b G H) (hp : H p = none) : G p = none := w.g.free hp
/-- the same under more known data -/
theorem Wb.more (w : Wb b G H) (e : Ex H H') : Wb b (fun x => if (G x).isSome then G x else none) H' := by
  have q : (fun x => if (G x).isSome then G x else none) = G := by
    funext x
    cases G x <;> rfl
  rw [q]
  exact w.ex e
end
/-! ### rules -/
section
variable {K : PySem.W.Frag} {σ : L2.St} {H : Hp} {Q : VK} {D : Ends}
theorem r_callK {sp : Sp} {gV : List V → List V → List V} {E : XK} {t tk : TA} (h : t σ H fun vs H1 => tk σ H1 fun zs H2 => sp (gV vs zs) H2 Q E) : tCallK sp gV E t tk σ H Q := h
theorem r_repL {p : Addr} {v : V} {n : Nat} (hp : H p = some (.lst [v])) (hn : n ≤ 1000000) (k : ∀ l, H l = none → Q (.ref l) (upd H l (.lst (List.replicate n v)))) : rRep (.ref p) (.int (n : Nat)) H Q := by
  refine ⟨p, n, [v], rfl, rfl, hp, by omega, by omega, ?_, fun l hl => ?_⟩
  · rw [Int.toNat_natCast, List.length_singleton, sizeLine_eq]
    omega
  · have e : (List.replicate (n : Int).toNat [v]).flatten = List.replicate n v := by
      rw [Int.toNat_natCast]
      clear k hn
      induction n with
      | zero => rfl
      | succ n ih => rw [List.replicate_succ, List.flatten_cons, ih, List.replicate_succ]; rfl
    rw [e]
    exact k l hl
/-- for k in range(x, y), x and y being a and a + n -/
theorem l_R2g {a n : Nat} {x y : Int} {g : TG} {tb : TS} (hx : x = (a : Nat)) (hy : y = ((a + n : Nat) : Int)) (h2 : a + n ≤ 1000000) (Pv : Nat → L2.St → Hp → Prop) (p0 : Pv 0 σ H)
    (ht : ∀ (i : Nat) σ H, i < n → Pv i σ H → g (.int ((a + i : Nat) : Int)) σ H fun σ2 H2 => tb { D with nx := Pv (i + 1), ct := Pv (i + 1), bk := D.nx } σ2 H2) (hd : ∀ σ H, Pv n σ H → D.nx σ H) :
    ∃ i j : Int, [V.int x, V.int y] = [.int i, .int j] ∧ (-(2 ^ 62) ≤ i ∧ i < 2 ^ 62 ∧ -(2 ^ 62) ≤ j ∧ j < 2 ^ 62) ∧ LoopW (Itr i (j - i).toNat) g tb D σ H := by
  subst hx
  exact l_R2 hy h2 Pv p0 ht hd
end
theorem app_len (a b : Str) : (a ++ b).length = a.length + b.length := by
  rw [← cs_len, cs_app, List.length_append, cs_len, cs_len]
/-- x is True, x is False: x of any kind -/
def rIsB : R2 := fun x y H Q => ∃ b, y = .bl b ∧ Q (.bl (decide (x = .bl b))) H
theorem op_isB {X : Cx} : OpR X (compareOp .Is) rIsB := by
  intro pins s σ H x y v u Q I rx ry h
  obtain ⟨b, rfl, q⟩ := h
  cases (show u = Value.bool b from ry)
  cases x with
  | bl a =>
    cases (show v = Value.bool a from rx)
    by_cases e : a = b
    · subst e
      exact wpAny_is_self rfl ⟨.bl true, H, I, rfl, by simpa using q⟩
    · exact wpAny_is_other rfl (fun z => e (Value.bool.inj z)) ⟨.bl false, H, I, rfl, by simpa [e] using q⟩
  | non => cases rx; exact wpAny_is_other rfl (fun z => nomatch z) ⟨.bl false, H, I, rfl, by simpa using q⟩
  | int i => obtain ⟨t, rfl⟩ := rx; exact wpAny_is_other rfl (fun z => nomatch z) ⟨.bl false, H, I, rfl, by simpa using q⟩
  | str i => obtain ⟨t, rfl⟩ := rx; exact wpAny_is_other rfl (fun z => nomatch z) ⟨.bl false, H, I, rfl, by simpa using q⟩
  | byt i => obtain ⟨t, rfl⟩ := rx; exact wpAny_is_other rfl (fun z => nomatch z) ⟨.bl false, H, I, rfl, by simpa using q⟩
  | flt i => obtain ⟨t, rfl⟩ := rx; exact wpAny_is_other rfl (fun z => nomatch z) ⟨.bl false, H, I, rfl, by simpa using q⟩
  | ref i => cases rx; exact wpAny_is_other rfl (fun z => nomatch z) ⟨.bl false, H, I, rfl, by simpa using q⟩
  | ty i => cases rx; exact wpAny_is_other rfl (fun z => nomatch z) ⟨.bl false, H, I, rfl, by simpa using q⟩
theorem r_isB {H : Hp} {Q : VK} {x : V} {b : Bool} (q : Q (.bl (decide (x = .bl b))) H) : rIsB x (.bl b) H Q := ⟨b, rfl, q⟩
theorem r_tyS {K : PySem.W.Frag} {H : Hp} {z : Str} {P : Prop} (k : P) : tyV K "str" (.str z) H ∧ P := ⟨by unfold tyV; simp, k⟩
theorem new1 {H : Hp} {p : Addr} (hp : H p = none) (o : HO) : ∃ H', H' = upd H p o ∧ Ex H H' ∧ H' p = some o := ⟨_, rfl, Same.new (Same.refl H) hp, upd_same⟩
/-! ### the last of one sign -/
theorem subAt1 (z : Str) (c i : Nat) : Builtin.Str.subAt z ⟨#[c]⟩ i = decide ((cs z)[i]? = some c) := by
  rw [StrLaws.subAt_eq, Bool.eq_iff_iff, beq_iff_eq, decide_eq_true_iff]
  show (z.cps.toList.drop i).take 1 = [c] ↔ z.cps.toList[i]? = some c
  rw [← List.head?_drop]
  cases z.cps.toList.drop i with
  | nil => simp
  | cons a l => simp
theorem last_in {s sub : Str} {hi j : Nat} : ∀ (l : List Nat) (st : Option Nat), (forIn l st (StrLaws.lastBody s sub hi)).run = some j → st = some j ∨ j ∈ l
  | [], st, h => .inl (by simpa using h)
  | a :: l, st, h => by
    rw [List.forIn_cons] at h
    unfold StrLaws.lastBody at h
    split at h
    · rcases last_in l (some a) h with z | z
      · exact .inr (by cases z; exact List.mem_cons_self ..)
      · exact .inr (List.mem_cons_of_mem _ z)
    · rcases last_in l st h with z | z
      · exact .inl z
      · exact .inr (List.mem_cons_of_mem _ z)
theorem rfind1 (z : Str) (c a b : Nat) (hb : b ≤ z.length) : (Txt.rfindIn z ⟨#[c]⟩ a b = -1 ∧ ∀ i, a ≤ i → i < b → (cs z)[i]? ≠ some c) ∨ ∃ j : Nat, Txt.rfindIn z ⟨#[c]⟩ a b = j ∧ a ≤ j ∧ j < b ∧ (cs z)[j]? = some c ∧ ∀ i, j < i → i < b → (cs z)[i]? ≠ some c := by
  have e1 : fromIndex z.length (a : Int) = a := by
    unfold fromIndex
    rw [if_neg (by omega)]
    omega
  have e2 : toIndexW z.length (b : Int) = b := by
    unfold toIndexW
    rw [if_neg (by omega)]
    omega
  unfold Txt.rfindIn
  rw [e1, e2, StrLaws.last_eq]
  have key := StrLaws.last_run z ⟨#[c]⟩ b (List.range' a (b + 1 - a)) [] none (fun _ h => nomatch h) (fun _ h => nomatch h) (by first | exact List.pairwise_lt_range' | simpa using List.pairwise_lt_range' (s := a) (n := b + 1 - a))
  have at1 : ∀ i, StrLaws.At z ⟨#[c]⟩ b i ↔ (i < b ∧ (cs z)[i]? = some c) := fun i => by
    unfold StrLaws.At
    rw [subAt1, decide_eq_true_iff]
    show i + 1 ≤ b ∧ _ ↔ _
    exact ⟨fun h => ⟨by omega, h.2⟩, fun h => ⟨by omega, h.2⟩⟩
  have mem : ∀ i, a ≤ i → i < b → i ∈ [] ++ List.range' a (b + 1 - a) := fun i h1 h2 => by simp [List.mem_range'_1]; omega
  cases hr : (forIn (List.range' a (b + 1 - a)) none (StrLaws.lastBody z ⟨#[c]⟩ b)).run with
  | none =>
    rw [hr] at key
    exact .inl ⟨rfl, fun i h1 h2 h3 => key i (mem i h1 h2) ((at1 i).mpr ⟨h2, h3⟩)⟩
  | some j =>
    rw [hr] at key
    obtain ⟨k1, k2⟩ := key
    obtain ⟨h1, h2⟩ := (at1 j).mp k1
    by_cases ha : a ≤ j
    · exact .inr ⟨j, rfl, ha, h1, h2, fun i g1 g2 g3 => k2 i (mem i (by omega) g2) g1 ((at1 i).mpr ⟨g2, g3⟩)⟩
    · exfalso
      rcases last_in _ _ hr with z | hi
      · cases z
      · exact ha (List.mem_range'_1.mp hi).1
end Dk

/-! set(list of ints), sorted of a set of ints of any size -/
namespace Sx
open PySem PySem.Spec PyProof.Rows L2
/-- a set without members, as it is made -/
abbrev noS (w : World) : Obj := { cls := .type "set", dict := none, data := .set #[] 0 (.fresh 0 0 (!w.params.followText "set-order")) }
section
variable {P : Program} {w : World} {A : Around} {E : Value → Shared → Prop} {s : Shared}
/-- what set.__init__ leaves -/
def Done (w : World) (s : Shared) (ns : List Int) (r : Value) (t : Shared) : Prop :=
  r = .none ∧ ∃ h' tk c, t = { s with heap := h', toks := tk } ∧ SetR w h' s.heap.objs.size (fun j => decide (j ∈ ns)) c ∧ c ≤ ns.length ∧ ∀ b o, s.heap.get? b = some o → h'.get? b = some o
theorem vals_at {items : Array Value} {ns : List Int} (hi : IntsAre items.toList ns) (hz : items.size = ns.length) (i : Nat) (v : Value) (hv : items[i]? = some v) : ∃ k t, ns[i]? = some k ∧ v = .int k t := by
  have il : i < ns.length := by
    rw [← hz]
    exact (Array.getElem?_eq_some_iff.mp hv).1
  have ⟨t, e⟩ := IntsAre.int_at hi i v (by rw [Array.getElem?_toList]; exact hv)
  refine ⟨ns[i], t, List.getElem?_eq_getElem il, e.trans ?_⟩
  rw [List.getD_eq_getElem?_getD, List.getElem?_eq_getElem il]
  rfl
set_option maxHeartbeats 6400000 in
theorem set_init {l : Addr} {items : Array Value} {ns : List Int} (hh : A.handled = none) (hl : s.heap.IsList l items) (hi : IntsAre items.toList ns) (hb : ns.length + 1 < scanBound) :
    codeAny (model P w) A (.call (.builtin "set.__init__") ⟨[.ref s.heap.objs.size, .ref l], []⟩) (wants (Done w s ns) E) { s with heap := s.heap.push (noS w) } := by
  have hz : items.size = ns.length := by
    rw [← IntsAre.length hi, Array.length_toList]
  have hS : (s.heap.push (noS w)).get? s.heap.objs.size = some (noS w) := Heap.get?_push_size _ rfl
  have hT : Shared.TypeIs { s with heap := s.heap.push (noS w) } (.ref s.heap.objs.size) "set" := ⟨_, hS, rfl⟩
  refine codeAny_call_builtin F.called_set.init.plain F.entry_set_init (check_set_init_1 hT ?_)
  obtain ⟨⟨oc, od, da, os⟩, hol, c1, nl, c2⟩ := hl
  cases c1
  cases c2
  have l1 : (s.heap.push (noS w)).get? l = some { cls := .type "list", dict := od, data := .seq items nl, slots := os } := Heap.get?_push_of_some _ hol
  have l2 : (s.heap.push (noS w)).IsList l items := ⟨_, l1, rfl, nl, rfl⟩
  have f1 := F.sub_list_set
  have f2 := F.sub_list_frozenset
  have f3 : (Value.type "list" == Value.type "dict") = false := by decide
  have lt : l < s.heap.objs.size := Heap.lt_size hol
  have sz : (s.heap.push (noS w)).objs.size = s.heap.objs.size + 1 := Heap.size_push ..
  unfold Builtin.«set.__init__» noKeywords Builtin.Frozenset.updateFrom
  generalize hy : pyIter = PI
  wp_walk
  subst hy
  refine wpAny_pyIter_list l2 (wpAny_bind (wpAny_runValue ?_))
  have nl1 : l ≠ (s.heap.push (noS w)).objs.size := by
    rw [sz]
    exact Nat.ne_of_lt (Nat.lt_succ_of_lt lt)
  have nin : s.heap.objs.size ∉ [(s.heap.push (noS w)).objs.size, l] := fun z => by
    rcases List.mem_cons.mp z with z | z
    · rw [sz] at z
      exact absurd z (Nat.ne_of_lt (Nat.lt_succ_self _))
    · exact absurd (List.mem_singleton.mp z) (Nat.ne_of_gt lt)
  refine set_update_ints ((Walks.list (by simp [hh]) _ l nl1 items).toS) s.heap.objs.size nin ns hz hb (vals_at hi hz) (items.size - 0) 0 _ (by omega) (Nat.zero_le _) ⟨⟨_, Heap.get?_push_size _ rfl, rfl, rfl⟩, l2.push _⟩ ⟨0, Nat.le_refl 0, setR_new_at (Heap.get?_push_of_some _ hS)⟩ fun s' c' hm hc' hS' => ?_
  obtain ⟨h', g2, d', tk', o'⟩ := s'
  cases (show g2 = s.gens from hm.gens)
  cases (show d' = s.drawn from hm.drawn)
  cases (show o' = s.os from hm.os)
  rw [hz] at hc'
  refine wpAny_pure ?_
  refine wpAny_pure ⟨rfl, h', tk', c', rfl, hS', hc', fun b o e => ?_⟩
  have lb : b < s.heap.objs.size := Heap.lt_size e
  refine hm.heap b o (fun z => ?_) (Heap.get?_push_of_some _ (Heap.get?_push_of_some _ e))
  rcases List.mem_cons.mp z with z | z
  · exact absurd z (Nat.ne_of_lt lb)
  · have z := List.mem_singleton.mp z
    rw [sz] at z
    exact absurd z (Nat.ne_of_lt (Nat.lt_succ_of_lt lb))
set_option maxHeartbeats 6400000 in
theorem set_list {l : Addr} {items : Array Value} {ns : List Int} {Q : Value → Shared → Prop} (hh : A.handled = none) (hl : s.heap.IsList l items) (hi : IntsAre items.toList ns) (hb : ns.length + 1 < scanBound)
    (h : ∀ (h' : Heap) (tk c : Nat), SetR w h' s.heap.objs.size (fun j => decide (j ∈ ns)) c → c ≤ ns.length → (∀ b o, s.heap.get? b = some o → h'.get? b = some o) → Q (.ref s.heap.objs.size) { s with heap := h', toks := tk }) :
    wpAny (model P w) A (call (.type "set") [.ref l]) Q E s := by
  have ⟨c, tl, hmro⟩ := F.called_set.mro
  have hmade := F.called_set.made
  have hsub := F.called_set.sub
  refine wpAny_call (codeAny_of_tree ?_)
  show wpAny _ _ (callAny (.type "set") _) _ _ _
  refine wpAny_pure ⟨Code.quiet_builtin _ (by decide +kernel), codeAny_builtin F.entry_type_call ?_⟩
  rw [Around.under_plain (weight_type_call_type "set" [.ref l] []) rfl]
  have h1 := F.called_set.notType
  have h2 := F.called_set.canCreate
  have hct := F.typeCall_set_1 (.ref l)
  repeat (any_goals (first | assumption | wp_step))
  refine codeAny_mono (code_set_led1 (.ref l) (E := E) (Q₁ := fun v t => v = .ref s.heap.objs.size ∧ t = { s with heap := s.heap.push (noS w) }) ⟨rfl, rfl⟩) fun r t hr => ?_
  cases r with
  | error e => exact hr
  | ok fl =>
    cases fl with
    | ret v =>
      obtain ⟨rfl, rfl⟩ := hr
      have hT : Shared.TypeIs { s with heap := s.heap.push (noS w) } (.ref s.heap.objs.size) "set" := ⟨_, Heap.get?_push_size _ rfl, rfl⟩
      have hli := F.called_set.init.lookup
      have hbi := F.called_set.init.bind (.ref s.heap.objs.size)
      repeat (any_goals (first | assumption | wp_step))
      refine codeAny_mono (set_init (E := E) (by simpa using hh) hl hi hb) fun r2 t2 hr2 => ?_
      cases r2 with
      | error e => exact hr2
      | ok fl2 =>
        cases fl2 with
        | ret v2 =>
          obtain ⟨rfl, h', tk, c', rfl, x1, x2, x3⟩ := hr2
          repeat (any_goals (first | assumption | wp_step))
          exact h _ _ _ x1 x2 x3
        | _ => exact hr2.elim
    | _ => exact hr.elim
theorem sorted_setU {a : Addr} {S : Int → Bool} {n : Nat} {Q : Value → Shared → Prop} (R : SetR w s.heap a S n) (hh : A.handled = none)
    (hQ : ∀ s' p (out : List Value) (c : Nat) (ns : List Int), (∀ b o, s.heap.get? b = some o → s'.heap.get? b = some o) → s'.gens = s.gens → s'.os = s.os → s.heap.objs.size ≤ p →
      s'.heap.get? p = some (seqObj "list" out.toArray c) → IntsAre out ns → ns.Pairwise (· < ·) → (∀ k, k ∈ ns ↔ S k = true) → ns.length = n → Q (.ref p) s') :
    wpAny (model P w) A (call (.builtin "sorted") [.ref a]) Q E s := by
  obtain ⟨o, es, ep, t, ho, hex, hd, g, nd, hm, hb, hf, hn, hr, hl⟩ := R
  refine Calls.call_function_entry kind_sorted plain_sorted entry_sorted (args_sorted1 _) ?_
  unfold Builtin.«sorted»
  refine wpAny_bind (m := checkCount "sorted" 1 1 _) (wpAny_pure ?_)
  refine wpAny_bind (collect_set (A := A.in1) hh ⟨o, ho, hex.1, hd⟩ hf hb hr hl fun s1 vs k1 hz g1 o1 pm => ?_)
  have lv : vs.length = n := by rw [pm.length_eq, List.length_map, Array.length_toList]; exact hn
  have hv : vs.length ≤ sizeLine := by
    rw [lv, ← hn]
    exact Nat.le_of_lt (Nat.lt_trans hb (by decide))
  have hI : IntsAre vs (vs.map Builtin.Re.reRawOf) := ints_of vs fun v hv => by
    obtain ⟨e, he, q⟩ := List.mem_map.mp (pm.mem_iff.mp hv)
    obtain ⟨k, tk, h1, _⟩ := g e he
    exact ⟨k, tk, by rw [← q]; exact h1⟩
  have pk : (vs.map Builtin.Re.reRawOf).Perm (es.toList.map keyOf) := by
    have q := pm.map Builtin.Re.reRawOf
    rw [List.map_map] at q
    exact q
  refine wpAny_bind (wpAny_newList ?_ hv)
  have hoL : (s1.heap.push (seqObj "list" vs.toArray 0)).get? s1.heap.objs.size = some (seqObj "list" vs.toArray 0) := Heap.get?_push_size _ rfl
  refine wpAny_bind (wpAny_holding (wpAny_call_entry slot_list_sort ⟨_, hoL, rfl⟩ entry_list_sort (SrtO.list_sort_ord SrtO.swo_int hoL hv (fun h2 => SrtO.ints_sortable hI h2) fun out a1 a2 => ⟨_, rfl, ?_⟩) (args_list_sort _)))
  obtain ⟨b1, b2, b3⟩ := SrtO.ints_out hI a1 a2
  obtain ⟨c, hc⟩ := sortedHeap_at (vs := vs) (out := out.toArray) hoL
  have pn : (out.map SrtO.iv).Perm (es.toList.map keyOf) := b2.trans pk
  refine wpAny_pure ⟨_, rfl, hQ _ s1.heap.objs.size out c _ (fun b u e => ?_) g1 o1 hz hc b1 (lt_of_le_nodup _ b3 (pn.nodup_iff.mpr nd)) (fun k => by rw [pn.mem_iff, ← hm k]) ?_⟩
  · have q := k1 b u e
    have lt := Heap.lt_size q
    show (sortedHeap (s1.heap.push (seqObj "list" vs.toArray 0)) s1.heap.objs.size vs out.toArray).get? b = some u
    rw [sortedHeap_old (Nat.ne_of_lt lt) (by rw [size_push']; exact Nat.lt_succ_of_lt lt)]
    exact Heap.get?_push_of_some _ q
  · rw [pn.length_eq, List.length_map, Array.length_toList]; exact hn
end
section
variable {X : Cx}
def rSetL (K : PySem.W.Frag) (w : World) : List V → Hp → VK → Prop := fun xs H Q => ∃ (l : Addr) (ns : List Int), xs = [V.ref l] ∧ SqL K H l (ns.map V.int) ∧ ns.length ≤ 4000 ∧ ∀ p c, c ≤ ns.length → H p = none → Q (.ref p) (upd H p (SetO w p (fun j => decide (j ∈ ns)) c))
theorem cr_setL (hc : X.calm = true) : CallR X (.type "set") (rSetL X.K X.w) := by
  intro pins s σ H vs us Q I r h
  obtain ⟨l, ns, rfl, hs, hb, q⟩ := h
  obtain ⟨its, rv, hl, hz⟩ := I.list hs
  rw [Vals.ref1 r]
  refine set_list (I.ok.hd hc) hl.isList (by simpa using RZ.intsAre_vals rv) (by unfold scanBound; omega) fun h' tk c R hcn kp => ?_
  exact ⟨.ref _, _, I.laid (t' := tk) kp (Nat.le_refl _) (setO_new R), rfl, q _ c hcn (I.hok.fresh (Nat.le_refl _))⟩
def rSortSU (w : World) : List V → Hp → VK → Prop := fun vs H Q => ∃ (a : Addr) (S : Int → Bool) (n : Nat), vs = [V.ref a] ∧ H a = some (SetO w a S n) ∧ n ≤ 4000 ∧
  ∀ (ns : List Int) (p : Addr), ns.Pairwise (· < ·) → (∀ k : Int, k ∈ ns ↔ S k = true) → H p = none → Q (.ref p) (upd H p (.lst (ns.map V.int)))
theorem cr_sortSU (hc : X.calm = true) : CallR X (.builtin "sorted") (rSortSU X.w) := by
  intro pins s σ H vs us Q I r h
  obtain ⟨a, S, n, rfl, ha, hn4, q⟩ := h
  have R := setO_get I ha
  rw [Vals.ref1 r]
  refine sorted_setU R (I.ok.hd hc) fun s' p out c ns k g o hp hg hi hs hm hl => ?_
  have hlen : (ns.map V.int).length ≤ sizeLine := by rw [List.length_map, hl, sizeLine_eq]; omega
  have hn : H p = none := I.hok.fresh hp
  have J : Inv X pins σ (upd H p (.lst (ns.map V.int))) { s with heap := s'.heap, gens := s'.gens, drawn := s'.drawn, toks := s'.toks } :=
    I.call (ch := []) (Un.laid k hp hn) (I.hok.laid k hp ⟨hlen, out, c, vals_of_ints hi, hg⟩) (by rw [g]; exact I.bare) (fun _ z => nomatch z)
  have e : s' = { s with heap := s'.heap, gens := s'.gens, drawn := s'.drawn, toks := s'.toks } := by
    cases s'
    cases s
    cases o
    rfl
  rw [e]
  exact ⟨.ref p, _, J, rfl, q ns p hs hm hn⟩
end
end Sx

namespace Pk
abbrev Iv := Int × Int
def cell (R : List Iv) (x : Int) : Prop := ∃ r ∈ R, r.1 ≤ x ∧ x < r.2
def inn (R : List Iv) (x : Int) : Prop := ∃ r ∈ R, r.1 < x ∧ x < r.2
/-- stretches with signs, one behind another -/
def Chn (R : List Iv) : Prop := (∀ r ∈ R, r.1 < r.2) ∧ R.Pairwise (fun a b => a.2 ≤ b.1)
theorem Chn.tail {r : Iv} {R : List Iv} (h : Chn (r :: R)) : Chn R := ⟨fun x hx => h.1 x (List.mem_cons_of_mem _ hx), (List.pairwise_cons.mp h.2).2⟩
theorem Chn.head {r : Iv} {R : List Iv} (h : Chn (r :: R)) : r.1 < r.2 ∧ ∀ s ∈ R, r.2 ≤ s.1 := ⟨h.1 r (List.mem_cons_self ..), (List.pairwise_cons.mp h.2).1⟩
theorem cell_cons {r : Iv} {R : List Iv} {x : Int} : cell (r :: R) x ↔ (r.1 ≤ x ∧ x < r.2) ∨ cell R x := by
  unfold cell
  constructor
  · rintro ⟨s, hs, h⟩
    rcases List.mem_cons.mp hs with rfl | hs
    · exact .inl h
    · exact .inr ⟨s, hs, h⟩
  · rintro (h | ⟨s, hs, h⟩)
    · exact ⟨r, List.mem_cons_self .., h⟩
    · exact ⟨s, List.mem_cons_of_mem _ hs, h⟩
theorem inn_cons {r : Iv} {R : List Iv} {x : Int} : inn (r :: R) x ↔ (r.1 < x ∧ x < r.2) ∨ inn R x := by
  unfold inn
  constructor
  · rintro ⟨s, hs, h⟩
    rcases List.mem_cons.mp hs with rfl | hs
    · exact .inl h
    · exact .inr ⟨s, hs, h⟩
  · rintro (h | ⟨s, hs, h⟩)
    · exact ⟨r, List.mem_cons_self .., h⟩
    · exact ⟨s, List.mem_cons_of_mem _ hs, h⟩
theorem cell_nil {x : Int} : ¬ cell [] x := fun ⟨_, h, _⟩ => nomatch h
theorem inn_nil {x : Int} : ¬ inn [] x := fun ⟨_, h, _⟩ => nomatch h
theorem Chn.above {r : Iv} {R : List Iv} (h : Chn (r :: R)) {x : Int} : cell R x → r.2 ≤ x := fun ⟨s, hs, hx⟩ => Int.le_trans (h.head.2 s hs) hx.1
theorem Chn.above2 {r : Iv} {R : List Iv} (h : Chn (r :: R)) {x : Int} : inn R x → r.2 < x := fun ⟨s, hs, hx⟩ => Int.lt_of_le_of_lt (h.head.2 s hs) hx.1
theorem cell_empty {R : List Iv} (h : Chn R) (e : ∀ x, ¬ cell R x) : R = [] := by
  cases R with
  | nil => rfl
  | cons r R => exact absurd (cell_cons.mpr (.inl ⟨Int.le_refl _, h.head.1⟩)) (e r.1)
/-- such rows are told by their cells and by the points within -/
theorem Chn.uniq : ∀ {R S : List Iv}, Chn R → Chn S → (∀ x, cell R x ↔ cell S x) → (∀ x, inn R x ↔ inn S x) → R = S
  | [], S, _, hS, hc, _ => (cell_empty hS fun x h => cell_nil ((hc x).mpr h)).symm
  | r :: R, [], hR, _, hc, _ => cell_empty hR fun x h => cell_nil ((hc x).mp h)
  | r :: R, s :: S, hR, hS, hc, hi => by
    have r0 := hR.head.1
    have s0 := hS.head.1
    have e1 : r.1 = s.1 := by
      have h1 := (hc r.1).mp (cell_cons.mpr (.inl ⟨Int.le_refl _, r0⟩))
      have h2 := (hc s.1).mpr (cell_cons.mpr (.inl ⟨Int.le_refl _, s0⟩))
      have g1 : s.1 ≤ r.1 := by
        rcases cell_cons.mp h1 with h | h
        · exact h.1
        · have := hS.above h; omega
      have g2 : r.1 ≤ s.1 := by
        rcases cell_cons.mp h2 with h | h
        · exact h.1
        · have := hR.above h; omega
      omega
    have e2 : r.2 = s.2 := by
      rcases Int.lt_trichotomy r.2 s.2 with c | c | c
      · exfalso
        have := (hi r.2).mpr (inn_cons.mpr (.inl ⟨by omega, c⟩))
        rcases inn_cons.mp this with h | h
        · omega
        · have := hR.above2 h; omega
      · exact c
      · exfalso
        have := (hi s.2).mp (inn_cons.mpr (.inl ⟨by omega, c⟩))
        rcases inn_cons.mp this with h | h
        · omega
        · have := hS.above2 h; omega
    have e : r = s := Prod.ext e1 e2
    subst e
    refine congrArg (r :: ·) (Chn.uniq hR.tail hS.tail (fun x => ?_) fun x => ?_)
    · constructor
      · intro h
        have g := hR.above h
        rcases cell_cons.mp ((hc x).mp (cell_cons.mpr (.inr h))) with z | z
        · omega
        · exact z
      · intro h
        have g := hS.above h
        rcases cell_cons.mp ((hc x).mpr (cell_cons.mpr (.inr h))) with z | z
        · omega
        · exact z
    · constructor
      · intro h
        have g := hR.above2 h
        rcases inn_cons.mp ((hi x).mp (inn_cons.mpr (.inr h))) with z | z
        · omega
        · exact z
      · intro h
        have g := hS.above2 h
        rcases inn_cons.mp ((hi x).mpr (inn_cons.mpr (.inr h))) with z | z
        · omega
        · exact z
/-! ### by neighbouring ends: the law's way -/
/-- J: whether a run goes on at an end; C p q: whether the segment is covered -/
def go (J : Int → Bool) (C : Int → Int → Bool) : List Int → Option Int → List Iv
  | [], _ => []
  | p :: rest, b =>
    let behind := match rest with | [] => false | q :: _ => C p q
    match b with
    | some b0 => if !behind || !J p then (b0, p) :: go J C rest (if behind then some p else none) else go J C rest (some b0)
    | none => go J C rest (if behind then some p else none)
variable {J : Int → Bool} {C : Int → Int → Bool} {U I : Int → Prop}
/-- the ends from here: what is covered between two neighbours, and nothing behind the last -/
inductive Sp (C : Int → Int → Bool) (U I : Int → Prop) : List Int → Prop
  | one {p : Int} : (∀ x, p ≤ x → ¬ U x) → (∀ x, p < x → ¬ I x) → Sp C U I [p]
  | cons {p q : Int} {rest : List Int} : p < q → (∀ x, p ≤ x → x < q → (U x ↔ C p q = true)) → (∀ x, p < x → x < q → (I x ↔ C p q = true)) → Sp C U I (q :: rest) → Sp C U I (p :: q :: rest)
theorem go_ok (hI : ∀ p, I p → U p ∧ U (p - 1)) (hJ : ∀ p, U p → U (p - 1) → (I p ↔ J p = true)) : ∀ {l : List Int} {p : Int}, Sp C U I (p :: l) → ∀ b : Option Int, (∀ b0, b = some b0 → b0 < p ∧ U (p - 1)) → (b = none → ¬ I p) →
    Chn (go J C (p :: l) b) ∧ (∀ r ∈ go J C (p :: l) b, p ≤ r.1 ∨ b = some r.1) ∧ (∀ x, cell (go J C (p :: l) b) x ↔ (∃ b0, b = some b0 ∧ b0 ≤ x ∧ x < p) ∨ (p ≤ x ∧ U x)) ∧
    (∀ x, inn (go J C (p :: l) b) x ↔ (∃ b0, b = some b0 ∧ b0 < x ∧ x < p) ∨ (p ≤ x ∧ I x))
  | [], p, .one hU hI', none, _, hn => by
    have e : go J C [p] none = [] := rfl
    rw [e]
    refine ⟨⟨fun r h => absurd h List.not_mem_nil, List.Pairwise.nil⟩, (fun r h => absurd h List.not_mem_nil), fun x => ⟨fun h => absurd h cell_nil, ?_⟩, fun x => ⟨fun h => absurd h inn_nil, ?_⟩⟩
    · rintro (⟨_, h, _⟩ | ⟨h1, h2⟩)
      · cases h
      · exact absurd h2 (hU x h1)
    · rintro (⟨_, h, _⟩ | ⟨h1, h2⟩)
      · cases h
      · exact absurd (hI x h2).1 (hU x h1)
  | [], p, .one hU hI', some b0, hb, _ => by
    have e : go J C [p] (some b0) = [(b0, p)] := rfl
    rw [e]
    have := (hb b0 rfl).1
    refine ⟨⟨fun r h => by rw [List.mem_singleton.mp h]; exact this, List.pairwise_singleton _ _⟩, (fun r h => .inr (by rw [List.mem_singleton.mp h])), fun x => ?_, fun x => ?_⟩
    · rw [cell_cons]
      constructor
      · rintro (h | h)
        · exact .inl ⟨b0, rfl, h⟩
        · exact absurd h cell_nil
      · rintro (⟨_, h, h2⟩ | ⟨h1, h2⟩)
        · cases h; exact .inl h2
        · exact absurd h2 (hU x h1)
    · rw [inn_cons]
      constructor
      · rintro (h | h)
        · exact .inl ⟨b0, rfl, h⟩
        · exact absurd h inn_nil
      · rintro (⟨_, h, h2⟩ | ⟨h1, h2⟩)
        · cases h; exact .inl h2
        · exact absurd (hI x h2).1 (hU x h1)
  | q :: rest, p, .cons pq hU hI' sp, b, hb, hn => by
    have Up : U p ↔ C p q = true := hU p (Int.le_refl _) pq
    have Uq : U (q - 1) ↔ C p q = true := hU (q - 1) (by omega) (by omega)
    cases c : C p q with
    | false =>
      have nU : ∀ x, p ≤ x → x < q → ¬ U x := fun x h1 h2 h => by have := (hU x h1 h2).mp h; rw [c] at this; cases this
      have nI : ∀ x, p ≤ x → x ≤ q → ¬ I x := fun x h1 h2 h => by
        rcases Int.lt_or_le x q with z | z
        · exact nU x h1 z (hI x h).1
        · exact nU (x - 1) (by omega) (by omega) (hI x h).2
      obtain ⟨k1, k2, k3, k4⟩ := go_ok hI hJ sp none (fun _ h => nomatch h) (fun _ => nI q (by omega) (Int.le_refl _))
      have ce : ∀ x, cell (go J C (q :: rest) none) x ↔ p ≤ x ∧ U x := fun x => by
        rw [k3]
        constructor
        · rintro (⟨_, h, _⟩ | h)
          · cases h
          · exact ⟨by omega, h.2⟩
        · intro h
          refine .inr ⟨?_, h.2⟩
          rcases Int.lt_or_le x q with z | z
          · exact absurd h.2 (nU x h.1 z)
          · exact z
      have ie : ∀ x, inn (go J C (q :: rest) none) x ↔ p ≤ x ∧ I x := fun x => by
        rw [k4]
        constructor
        · rintro (⟨_, h, _⟩ | h)
          · cases h
          · exact ⟨by omega, h.2⟩
        · intro h
          refine .inr ⟨?_, h.2⟩
          rcases Int.lt_or_le x q with z | z
          · exact absurd h.2 (nI x h.1 (by omega))
          · exact z
      cases b with
      | none =>
        have e : go J C (p :: q :: rest) none = go J C (q :: rest) none := by
          show go J C (q :: rest) (if C p q = true then some p else none) = _
          rw [c]; rfl
        rw [e]
        refine ⟨k1, fun r hr => ?_, fun x => ?_, fun x => ?_⟩
        · rcases k2 r hr with z | z
          · exact .inl (by omega)
          · cases z
        · rw [ce]
          exact ⟨.inr, fun h => h.elim (fun ⟨_, z, _⟩ => nomatch z) id⟩
        · rw [ie]
          exact ⟨.inr, fun h => h.elim (fun ⟨_, z, _⟩ => nomatch z) id⟩
      | some b0 =>
        have b1 := (hb b0 rfl).1
        have e : go J C (p :: q :: rest) (some b0) = (b0, p) :: go J C (q :: rest) none := by
          show (if (!C p q || !J p) = true then (b0, p) :: go J C (q :: rest) (if C p q = true then some p else none) else go J C (q :: rest) (some b0)) = _
          rw [c]; rfl
        rw [e]
        refine ⟨⟨fun r hr => ?_, List.pairwise_cons.mpr ⟨fun r hr => ?_, k1.2⟩⟩, fun r hr => ?_, fun x => ?_, fun x => ?_⟩
        · rcases List.mem_cons.mp hr with rfl | hr
          · exact b1
          · exact k1.1 r hr
        · rcases k2 r hr with z | z
          · show p ≤ r.1; omega
          · cases z
        · rcases List.mem_cons.mp hr with rfl | hr
          · exact .inr rfl
          · rcases k2 r hr with z | z
            · exact .inl (by omega)
            · cases z
        · rw [cell_cons, ce]
          exact or_congr ⟨fun h => ⟨b0, rfl, h⟩, fun ⟨_, h, h2⟩ => by cases h; exact h2⟩ Iff.rfl
        · rw [inn_cons, ie]
          exact or_congr ⟨fun h => ⟨b0, rfl, h⟩, fun ⟨_, h, h2⟩ => by cases h; exact h2⟩ Iff.rfl
    | true =>
      have aU : ∀ x, p ≤ x → x < q → U x := fun x h1 h2 => (hU x h1 h2).mpr c
      have aI : ∀ x, p < x → x < q → I x := fun x h1 h2 => (hI' x h1 h2).mpr c
      have hbq : ∀ d : Int, d ≤ p → ∀ b0, some d = some b0 → b0 < q ∧ U (q - 1) := fun d hd b0 h => by
        cases h
        exact ⟨by omega, aU (q - 1) (by omega) (by omega)⟩
      cases b with
      | none =>
        obtain ⟨k1, k2, k3, k4⟩ := go_ok hI hJ sp (some p) (hbq p (Int.le_refl _)) (fun h => nomatch h)
        have e : go J C (p :: q :: rest) none = go J C (q :: rest) (some p) := by
          show go J C (q :: rest) (if C p q = true then some p else none) = _
          rw [c]; rfl
        rw [e]
        refine ⟨k1, fun r hr => ?_, fun x => ?_, fun x => ?_⟩
        · rcases k2 r hr with z | z
          · exact .inl (by omega)
          · have := Option.some.inj z; exact .inl (by omega)
        · rw [k3]
          constructor
          · rintro (⟨_, h, h2⟩ | h)
            · cases h; exact .inr ⟨h2.1, aU x h2.1 h2.2⟩
            · exact .inr ⟨by omega, h.2⟩
          · rintro (⟨_, h, _⟩ | h)
            · cases h
            · rcases Int.lt_or_le x q with z | z
              · exact .inl ⟨p, rfl, h.1, z⟩
              · exact .inr ⟨z, h.2⟩
        · rw [k4]
          constructor
          · rintro (⟨_, h, h2⟩ | h)
            · cases h; exact .inr ⟨by omega, aI x h2.1 h2.2⟩
            · exact .inr ⟨by omega, h.2⟩
          · rintro (⟨_, h, _⟩ | h)
            · cases h
            · rcases Int.lt_or_le x q with z | z
              · refine .inl ⟨p, rfl, ?_, z⟩
                rcases Int.lt_or_le p x with y | y
                · exact y
                · rw [show x = p by omega] at h
                  exact absurd h.2 (hn rfl)
              · exact .inr ⟨z, h.2⟩
      | some b0 =>
        obtain ⟨b1, b2⟩ := hb b0 rfl
        have Ip := hJ p (aU p (Int.le_refl _) pq) b2
        cases j : J p with
        | true =>
          obtain ⟨k1, k2, k3, k4⟩ := go_ok hI hJ sp (some b0) (hbq b0 (by omega)) (fun h => nomatch h)
          have e : go J C (p :: q :: rest) (some b0) = go J C (q :: rest) (some b0) := by
            show (if (!C p q || !J p) = true then (b0, p) :: go J C (q :: rest) (if C p q = true then some p else none) else go J C (q :: rest) (some b0)) = _
            rw [c, j]; rfl
          rw [e]
          have Ip := Ip.mpr j
          refine ⟨k1, fun r hr => ?_, fun x => ?_, fun x => ?_⟩
          · rcases k2 r hr with z | z
            · exact .inl (by omega)
            · exact .inr z
          · rw [k3]
            constructor
            · rintro (⟨_, h, h2⟩ | h)
              · cases h
                rcases Int.lt_or_le x p with z | z
                · exact .inl ⟨b0, rfl, h2.1, z⟩
                · exact .inr ⟨z, aU x z h2.2⟩
              · exact .inr ⟨by omega, h.2⟩
            · rintro (⟨_, h, h2⟩ | h)
              · cases h; exact .inl ⟨b0, rfl, h2.1, by omega⟩
              · rcases Int.lt_or_le x q with z | z
                · exact .inl ⟨b0, rfl, by omega, z⟩
                · exact .inr ⟨z, h.2⟩
          · rw [k4]
            constructor
            · rintro (⟨_, h, h2⟩ | h)
              · cases h
                rcases Int.lt_trichotomy x p with z | z | z
                · exact .inl ⟨b0, rfl, h2.1, z⟩
                · exact .inr ⟨by omega, by rw [z]; exact Ip⟩
                · exact .inr ⟨by omega, aI x z h2.2⟩
              · exact .inr ⟨by omega, h.2⟩
            · rintro (⟨_, h, h2⟩ | h)
              · cases h; exact .inl ⟨b0, rfl, h2.1, by omega⟩
              · rcases Int.lt_or_le x q with z | z
                · exact .inl ⟨b0, rfl, by omega, z⟩
                · exact .inr ⟨z, h.2⟩
        | false =>
          have nIp : ¬ I p := fun z => by have := Ip.mp z; rw [j] at this; cases this
          obtain ⟨k1, k2, k3, k4⟩ := go_ok hI hJ sp (some p) (hbq p (Int.le_refl _)) (fun h => nomatch h)
          have e : go J C (p :: q :: rest) (some b0) = (b0, p) :: go J C (q :: rest) (some p) := by
            show (if (!C p q || !J p) = true then (b0, p) :: go J C (q :: rest) (if C p q = true then some p else none) else go J C (q :: rest) (some b0)) = _
            rw [c, j]; rfl
          rw [e]
          have low : ∀ r ∈ go J C (q :: rest) (some p), p ≤ r.1 := fun r hr => by
            rcases k2 r hr with z | z
            · omega
            · have := Option.some.inj z; omega
          refine ⟨⟨fun r hr => ?_, List.pairwise_cons.mpr ⟨low, k1.2⟩⟩, fun r hr => ?_, fun x => ?_, fun x => ?_⟩
          · rcases List.mem_cons.mp hr with rfl | hr
            · exact b1
            · exact k1.1 r hr
          · rcases List.mem_cons.mp hr with rfl | hr
            · exact .inr rfl
            · exact .inl (low r hr)
          · rw [cell_cons, k3]
            constructor
            · rintro (h | ⟨_, h, h2⟩ | h)
              · exact .inl ⟨b0, rfl, h⟩
              · cases h; exact .inr ⟨h2.1, aU x h2.1 h2.2⟩
              · exact .inr ⟨by omega, h.2⟩
            · rintro (⟨_, h, h2⟩ | h)
              · cases h; exact .inl h2
              · rcases Int.lt_or_le x q with z | z
                · exact .inr (.inl ⟨p, rfl, h.1, z⟩)
                · exact .inr (.inr ⟨z, h.2⟩)
          · rw [inn_cons, k4]
            constructor
            · rintro (h | ⟨_, h, h2⟩ | h)
              · exact .inl ⟨b0, rfl, h⟩
              · cases h; exact .inr ⟨by omega, aI x h2.1 h2.2⟩
              · exact .inr ⟨by omega, h.2⟩
            · rintro (⟨_, h, h2⟩ | h)
              · cases h; exact .inl h2
              · rcases Int.lt_or_le x q with z | z
                · refine .inr (.inl ⟨p, rfl, ?_, z⟩)
                  rcases Int.lt_or_le p x with y | y
                  · exact y
                  · rw [show x = p by omega] at h
                    exact absurd h.2 nIp
                · exact .inr (.inr ⟨z, h.2⟩)
/-! ### by merging in order: joined stretches -/
def mg : Iv → List Iv → List Iv
  | l, [] => [l]
  | l, s :: r => if s.1 ≤ l.2 then mg (l.1, max l.2 s.2) r else l :: mg s r
theorem mg_ok : ∀ (r : List Iv) (l : Iv), l.1 < l.2 → (∀ s ∈ r, s.1 < s.2 ∧ l.1 ≤ s.1) → r.Pairwise (fun a b => a.1 ≤ b.1) →
    Chn (mg l r) ∧ (∀ z ∈ mg l r, l.1 ≤ z.1) ∧ (∀ x, cell (mg l r) x ↔ (l.1 ≤ x ∧ x < l.2) ∨ cell r x) ∧ (∀ x, inn (mg l r) x ↔ cell (mg l r) x ∧ cell (mg l r) (x - 1))
  | [], l, hl, _, _ => by
    have e : mg l [] = [l] := rfl
    rw [e]
    refine ⟨⟨fun z h => by rw [List.mem_singleton.mp h]; exact hl, List.pairwise_singleton _ _⟩, fun z h => by rw [List.mem_singleton.mp h]; exact Int.le_refl _, fun x => cell_cons, fun x => ?_⟩
    rw [inn_cons, cell_cons, cell_cons]
    have a := @inn_nil x
    have b := @cell_nil x
    have c := @cell_nil (x - 1)
    constructor
    · rintro (h | h)
      · exact ⟨.inl (by omega), .inl (by omega)⟩
      · exact absurd h a
    · rintro ⟨h1 | h1, h2 | h2⟩
      · exact .inl (by omega)
      · exact absurd h2 c
      · exact absurd h1 b
      · exact absurd h1 b
  | s :: r, l, hl, hr, hp => by
    obtain ⟨s1, s2⟩ := hr s (List.mem_cons_self ..)
    obtain ⟨p1, p2⟩ := List.pairwise_cons.mp hp
    by_cases c : s.1 ≤ l.2
    · have e : mg l (s :: r) = mg (l.1, max l.2 s.2) r := by
        show (if s.1 ≤ l.2 then _ else _) = _
        rw [if_pos c]
      rw [e]
      obtain ⟨k1, k2, k3, k4⟩ := mg_ok r (l.1, max l.2 s.2) (show l.1 < max l.2 s.2 by omega) (fun z hz => ⟨(hr z (List.mem_cons_of_mem _ hz)).1, (hr z (List.mem_cons_of_mem _ hz)).2⟩) p2
      refine ⟨k1, k2, fun x => ?_, k4⟩
      rw [k3, cell_cons, ← or_assoc]
      refine or_congr ⟨fun h => ?_, fun h => ?_⟩ Iff.rfl
      · have h1 : l.1 ≤ x := h.1
        have h2 : x < max l.2 s.2 := h.2
        rcases Int.lt_or_le x l.2 with z | z
        · exact .inl ⟨h1, z⟩
        · exact .inr (by omega)
      · show l.1 ≤ x ∧ x < max l.2 s.2
        rcases h with h | h <;> omega
    · have e : mg l (s :: r) = l :: mg s r := by
        show (if s.1 ≤ l.2 then _ else _) = _
        rw [if_neg c]
      rw [e]
      obtain ⟨k1, k2, k3, k4⟩ := mg_ok r s s1 (fun z hz => ⟨(hr z (List.mem_cons_of_mem _ hz)).1, p1 z hz⟩) p2
      have lo : ∀ x, cell (mg s r) x → s.1 ≤ x := fun x ⟨z, hz, h⟩ => Int.le_trans (k2 z hz) h.1
      refine ⟨⟨fun z hz => ?_, List.pairwise_cons.mpr ⟨fun z hz => by have := k2 z hz; omega, k1.2⟩⟩, fun z hz => ?_, fun x => ?_, fun x => ?_⟩
      · rcases List.mem_cons.mp hz with rfl | hz
        · exact hl
        · exact k1.1 z hz
      · rcases List.mem_cons.mp hz with rfl | hz
        · exact Int.le_refl _
        · have := k2 z hz; omega
      · rw [cell_cons, k3, cell_cons]
      · rw [inn_cons, cell_cons, cell_cons, k4]
        have a := lo x
        have b := lo (x - 1)
        constructor
        · rintro (h | h)
          · exact ⟨.inl (by omega), .inl (by omega)⟩
          · exact ⟨.inr h.1, .inr h.2⟩
        · rintro ⟨h1 | h1, h2 | h2⟩
          · exact .inl (by omega)
          · have := b h2; omega
          · have := a h1; omega
          · exact .inr ⟨h1, h2⟩
/-! ### by merging in order: settled picks -/
def Jn (l s : Iv) : Prop := s.1 < l.2 ∨ (s.1 = l.2 ∧ (l.1 = l.2 ∨ s.1 = s.2))
instance (l s : Iv) : Decidable (Jn l s) := by unfold Jn; infer_instance
def Sep (a b : Iv) : Prop := a.2 < b.1 ∨ (a.2 = b.1 ∧ a.1 < a.2 ∧ b.1 < b.2)
variable {α : Type}
def sg (f : α → Iv) : Iv × List α → List α → List (Iv × List α)
  | l, [] => [l]
  | l, a :: r => if Jn l.1 (f a) then sg f ((l.1.1, max l.1.2 (f a).2), l.2 ++ [a]) r else l :: sg f (f a, [a]) r
/-- a group with its picks: it is as long as they say -/
structure Grp (f : α → Iv) (g : Iv × List α) : Prop where
  le : g.1.1 ≤ g.1.2
  sub : ∀ a ∈ g.2, g.1.1 ≤ (f a).1 ∧ (f a).2 ≤ g.1.2
  cell : ∀ x, g.1.1 ≤ x → x < g.1.2 → ∃ a ∈ g.2, (f a).1 ≤ x ∧ x < (f a).2
  inn : ∀ x, g.1.1 < x → x < g.1.2 → ∃ a ∈ g.2, (f a).1 < x ∧ x < (f a).2
  ne : g.1.1 = g.1.2 → ∃ a ∈ g.2, f a = g.1
theorem Grp.one {f : α → Iv} {a : α} (h : (f a).1 ≤ (f a).2) : Grp f (f a, [a]) where
  le := h
  sub := fun b hb => by rw [List.mem_singleton.mp hb]; exact ⟨Int.le_refl _, Int.le_refl _⟩
  cell := fun x h1 h2 => ⟨a, List.mem_singleton.mpr rfl, h1, h2⟩
  inn := fun x h1 h2 => ⟨a, List.mem_singleton.mpr rfl, h1, h2⟩
  ne := fun _ => ⟨a, List.mem_singleton.mpr rfl, rfl⟩
theorem Grp.add {f : α → Iv} {l : Iv × List α} {a : α} (g : Grp f l) (h : (f a).1 ≤ (f a).2) (lo : l.1.1 ≤ (f a).1) (j : Jn l.1 (f a)) : Grp f ((l.1.1, max l.1.2 (f a).2), l.2 ++ [a]) where
  le := by have := g.le; show l.1.1 ≤ max l.1.2 (f a).2; omega
  sub := fun b hb => by
    show l.1.1 ≤ (f b).1 ∧ (f b).2 ≤ max l.1.2 (f a).2
    rcases List.mem_append.mp hb with hb | hb
    · have := g.sub b hb; omega
    · rw [List.mem_singleton.mp hb]; omega
  cell := fun x h1 h2 => by
    have h1 : l.1.1 ≤ x := h1
    have h2 : x < max l.1.2 (f a).2 := h2
    unfold Jn at j
    have := g.le
    rcases Int.lt_or_le x l.1.2 with z | z
    · obtain ⟨b, hb, h⟩ := g.cell x h1 z
      exact ⟨b, List.mem_append_left _ hb, h⟩
    · exact ⟨a, List.mem_append_right _ (List.mem_singleton.mpr rfl), by omega⟩
  inn := fun x h1 h2 => by
    have h1 : l.1.1 < x := h1
    have h2 : x < max l.1.2 (f a).2 := h2
    unfold Jn at j
    have := g.le
    rcases Int.lt_or_le x l.1.2 with z | z
    · obtain ⟨b, hb, h⟩ := g.inn x h1 z
      exact ⟨b, List.mem_append_left _ hb, h⟩
    · exact ⟨a, List.mem_append_right _ (List.mem_singleton.mpr rfl), by omega⟩
  ne := fun e => by
    have e : l.1.1 = max l.1.2 (f a).2 := e
    have := g.le
    obtain ⟨b, hb, h⟩ := g.ne (by omega)
    refine ⟨b, List.mem_append_left _ hb, ?_⟩
    rw [h]
    exact Prod.ext rfl (show l.1.2 = max l.1.2 (f a).2 by omega)
def Lx (a b : Iv) : Prop := a.1 < b.1 ∨ (a.1 = b.1 ∧ a.2 ≤ b.2)
theorem Lx.le {a b : Iv} (h : Lx a b) : a.1 ≤ b.1 := by unfold Lx at h; omega
theorem sg_ok (f : α → Iv) : ∀ (r : List α) (l : Iv × List α), Grp f l → (∀ a ∈ r, (f a).1 ≤ (f a).2 ∧ l.1.1 ≤ (f a).1) → r.Pairwise (fun a b => Lx (f a) (f b)) →
    (∀ g ∈ sg f l r, Grp f g ∧ l.1.1 ≤ g.1.1) ∧ (sg f l r).Pairwise (fun a b => Sep a.1 b.1) ∧ (∀ a, (∃ g ∈ sg f l r, a ∈ g.2) ↔ a ∈ l.2 ∨ a ∈ r)
  | [], l, hl, _, _ => by
    have e : sg f l [] = [l] := rfl
    rw [e]
    refine ⟨fun g h => by rw [List.mem_singleton.mp h]; exact ⟨hl, Int.le_refl _⟩, List.pairwise_singleton _ _, fun a => ⟨fun ⟨g, hg, h⟩ => .inl (by rw [← List.mem_singleton.mp hg]; exact h), ?_⟩⟩
    rintro (h | h)
    · exact ⟨l, List.mem_singleton.mpr rfl, h⟩
    · cases h
  | a :: r, l, hl, hr, hp => by
    obtain ⟨a1, a2⟩ := hr a (List.mem_cons_self ..)
    obtain ⟨p1, p2⟩ := List.pairwise_cons.mp hp
    have lle := hl.le
    by_cases c : Jn l.1 (f a)
    · have e : sg f l (a :: r) = sg f ((l.1.1, max l.1.2 (f a).2), l.2 ++ [a]) r := by
        show (if Jn l.1 (f a) then _ else _) = _
        rw [if_pos c]
      rw [e]
      obtain ⟨k1, k2, k3⟩ := sg_ok f r ((l.1.1, max l.1.2 (f a).2), l.2 ++ [a]) (hl.add a1 a2 c) (fun z hz => ⟨(hr z (List.mem_cons_of_mem _ hz)).1, (hr z (List.mem_cons_of_mem _ hz)).2⟩) p2
      refine ⟨k1, k2, fun b => ?_⟩
      rw [k3]
      show b ∈ l.2 ++ [a] ∨ b ∈ r ↔ _
      rw [List.mem_append, List.mem_singleton, List.mem_cons, or_assoc]
    · have e : sg f l (a :: r) = l :: sg f (f a, [a]) r := by
        show (if Jn l.1 (f a) then _ else _) = _
        rw [if_neg c]
      rw [e]
      obtain ⟨k1, k2, k3⟩ := sg_ok f r (f a, [a]) (Grp.one a1) (fun z hz => ⟨(hr z (List.mem_cons_of_mem _ hz)).1, (p1 z hz).le⟩) p2
      have lo : ∀ g ∈ sg f (f a, [a]) r, (f a).1 ≤ g.1.1 := fun g hg => (k1 g hg).2
      unfold Jn at c
      refine ⟨fun g hg => ?_, List.pairwise_cons.mpr ⟨fun g hg => ?_, k2⟩, fun b => ?_⟩
      · rcases List.mem_cons.mp hg with rfl | hg
        · exact ⟨hl, Int.le_refl _⟩
        · exact ⟨(k1 g hg).1, by have := lo g hg; omega⟩
      · have g1 := lo g hg
        have gg := (k1 g hg).1
        have gle := gg.le
        unfold Sep
        rcases Int.lt_or_le l.1.2 g.1.1 with z | z
        · exact .inl z
        · refine .inr ⟨by omega, by omega, ?_⟩
          rcases Int.lt_or_le g.1.1 g.1.2 with y | y
          · exact y
          · exfalso
            obtain ⟨b, hb, eb⟩ := gg.ne (by omega)
            rcases (k3 b).mp ⟨g, hg, hb⟩ with h | h
            · have h : b = a := List.mem_singleton.mp h
              rw [h] at eb
              rw [← eb] at y z
              omega
            · have := p1 b h
              unfold Lx at this
              rw [eb] at this
              omega
      · constructor
        · rintro ⟨g, hg, h⟩
          rcases List.mem_cons.mp hg with rfl | hg
          · exact .inl h
          · rcases (k3 b).mp ⟨g, hg, h⟩ with z | z
            · exact .inr (by rw [List.mem_singleton.mp z]; exact List.mem_cons_self ..)
            · exact .inr (List.mem_cons_of_mem _ z)
        · rintro (h | h)
          · exact ⟨l, List.mem_cons_self .., h⟩
          · obtain ⟨g, hg, z⟩ := (k3 b).mpr (by
              rcases List.mem_cons.mp h with rfl | h
              · exact .inl (List.mem_singleton.mpr rfl)
              · exact .inr h)
            exact ⟨g, List.mem_cons_of_mem _ hg, z⟩
/-- what is told of the groups of picks in order -/
structure Gs (f : α → Iv) (T : List α) (R : List (Iv × List α)) : Prop where
  grp : ∀ g ∈ R, Grp f g
  sep : R.Pairwise (fun a b => Sep a.1 b.1)
  mem : ∀ a, (∃ g ∈ R, a ∈ g.2) ↔ a ∈ T
theorem Gs.of {f : α → Iv} {a : α} {r : List α} (h1 : ∀ b ∈ a :: r, (f b).1 ≤ (f b).2) (h2 : (a :: r).Pairwise (fun a b => Lx (f a) (f b))) : Gs f (a :: r) (sg f (f a, [a]) r) := by
  obtain ⟨p1, p2⟩ := List.pairwise_cons.mp h2
  obtain ⟨k1, k2, k3⟩ := sg_ok f r (f a, [a]) (Grp.one (h1 a (List.mem_cons_self ..))) (fun b hb => ⟨h1 b (List.mem_cons_of_mem _ hb), (p1 b hb).le⟩) p2
  refine ⟨fun g hg => (k1 g hg).1, k2, fun b => ?_⟩
  rw [k3, List.mem_singleton, List.mem_cons]
section
variable {f : α → Iv} {T : List α} {R : List (Iv × List α)} (h : Gs f T R)
include h
theorem Gs.eq {g g' : Iv × List α} (hg : g ∈ R) (hg' : g' ∈ R) {x : Int} (h1 : g.1.1 ≤ x) (h2 : x < g.1.2) (h3 : g'.1.1 ≤ x) (h4 : x < g'.1.2) : g = g' := by
  obtain ⟨i, hi, ei⟩ := List.getElem_of_mem hg
  obtain ⟨j, hj, ej⟩ := List.getElem_of_mem hg'
  have p := List.pairwise_iff_getElem.mp h.sep
  rcases Nat.lt_trichotomy i j with c | c | c
  · have := p i j hi hj c
    rw [ei, ej] at this
    unfold Sep at this
    omega
  · subst c
    rw [← ei, ← ej]
  · have := p j i hj hi c
    rw [ei, ej] at this
    unfold Sep at this
    omega
/-- the groups with signs -/
theorem Gs.chn : Chn ((R.map Prod.fst).filter fun r => decide (r.1 < r.2)) := by
  refine ⟨fun r hr => of_decide_eq_true (List.mem_filter.mp hr).2, List.Pairwise.filter _ (List.pairwise_map.mpr (h.sep.imp fun {a b} z => ?_))⟩
  unfold Sep at z
  omega
theorem Gs.cells (x : Int) : cell ((R.map Prod.fst).filter fun r => decide (r.1 < r.2)) x ↔ cell (T.map f) x := by
  constructor
  · rintro ⟨r, hr, h1, h2⟩
    obtain ⟨g, hg, rfl⟩ := List.mem_map.mp (List.mem_filter.mp hr).1
    obtain ⟨a, ha, z⟩ := (h.grp g hg).cell x h1 h2
    exact ⟨f a, List.mem_map.mpr ⟨a, (h.mem a).mp ⟨g, hg, ha⟩, rfl⟩, z⟩
  · rintro ⟨r, hr, h1, h2⟩
    obtain ⟨a, ha, rfl⟩ := List.mem_map.mp hr
    obtain ⟨g, hg, hag⟩ := (h.mem a).mpr ha
    have := (h.grp g hg).sub a hag
    exact ⟨g.1, List.mem_filter.mpr ⟨List.mem_map.mpr ⟨g, hg, rfl⟩, decide_eq_true (by omega)⟩, by omega, by omega⟩
theorem Gs.inns (x : Int) : inn ((R.map Prod.fst).filter fun r => decide (r.1 < r.2)) x ↔ inn (T.map f) x := by
  constructor
  · rintro ⟨r, hr, h1, h2⟩
    obtain ⟨g, hg, rfl⟩ := List.mem_map.mp (List.mem_filter.mp hr).1
    obtain ⟨a, ha, z⟩ := (h.grp g hg).inn x h1 h2
    exact ⟨f a, List.mem_map.mpr ⟨a, (h.mem a).mp ⟨g, hg, ha⟩, rfl⟩, z⟩
  · rintro ⟨r, hr, h1, h2⟩
    obtain ⟨a, ha, rfl⟩ := List.mem_map.mp hr
    obtain ⟨g, hg, hag⟩ := (h.mem a).mpr ha
    have := (h.grp g hg).sub a hag
    exact ⟨g.1, List.mem_filter.mpr ⟨List.mem_map.mpr ⟨g, hg, rfl⟩, decide_eq_true (by omega)⟩, by omega, by omega⟩
/-- the carets that stay -/
theorem Gs.carets (le : ∀ a ∈ T, (f a).1 ≤ (f a).2) (p : Int) : (p, p) ∈ R.map Prod.fst ↔ (∃ a ∈ T, f a = (p, p)) ∧ ∀ a ∈ T, (f a).1 < (f a).2 → ¬ ((f a).1 ≤ p ∧ p ≤ (f a).2) := by
  constructor
  · intro hp
    obtain ⟨g, hg, e⟩ := List.mem_map.mp hp
    have e1 : g.1.1 = p := by rw [e]
    have e2 : g.1.2 = p := by rw [e]
    refine ⟨?_, fun a ha lt z => ?_⟩
    · obtain ⟨a, ha, ea⟩ := (h.grp g hg).ne (by omega)
      exact ⟨a, (h.mem a).mp ⟨g, hg, ha⟩, by rw [ea, e]⟩
    · obtain ⟨g', hg', ha'⟩ := (h.mem a).mpr ha
      have s := (h.grp g' hg').sub a ha'
      obtain ⟨i, hi, ei⟩ := List.getElem_of_mem hg
      obtain ⟨j, hj, ej⟩ := List.getElem_of_mem hg'
      have pw := List.pairwise_iff_getElem.mp h.sep
      rcases Nat.lt_trichotomy i j with c | c | c
      · have := pw i j hi hj c
        rw [ei, ej] at this
        unfold Sep at this
        omega
      · subst c
        have : g = g' := by rw [← ei, ← ej]
        subst this
        omega
      · have := pw j i hj hi c
        rw [ei, ej] at this
        unfold Sep at this
        omega
  · rintro ⟨⟨a, ha, ea⟩, nt⟩
    obtain ⟨g, hg, hag⟩ := (h.mem a).mpr ha
    have s := (h.grp g hg).sub a hag
    rw [ea] at s
    have gle := (h.grp g hg).le
    rcases Int.lt_or_le g.1.1 g.1.2 with c | c
    · exfalso
      rcases Int.lt_or_le p g.1.2 with z | z
      · obtain ⟨b, hb, z1, z2⟩ := (h.grp g hg).cell p s.1 z
        exact nt b ((h.mem b).mp ⟨g, hg, hb⟩) (by omega) ⟨z1, by omega⟩
      · obtain ⟨b, hb, z1, z2⟩ := (h.grp g hg).cell (p - 1) (by have := s.2; omega) (by have := s.2; omega)
        exact nt b ((h.mem b).mp ⟨g, hg, hb⟩) (by omega) ⟨by omega, by omega⟩
    · refine List.mem_map.mpr ⟨g, hg, Prod.ext ?_ ?_⟩
      · have a1 := s.1
        have a2 := s.2
        show g.1.1 = p
        have a1 : g.1.1 ≤ p := a1
        have a2 : p ≤ g.1.2 := a2
        omega
      · have a1 : g.1.1 ≤ p := s.1
        have a2 : p ≤ g.1.2 := s.2
        show g.1.2 = p
        omega
/-- whose picks are those of a group: all picks with signs that lie within it -/
theorem Gs.whose {g : Iv × List α} (hg : g ∈ R) {a : α} (ha : a ∈ T) (lt : (f a).1 < (f a).2) : a ∈ g.2 ↔ g.1.1 ≤ (f a).1 ∧ (f a).2 ≤ g.1.2 ∧ a ∈ g.2 := ⟨fun z => ⟨((h.grp g hg).sub a z).1, ((h.grp g hg).sub a z).2, z⟩, fun z => z.2.2⟩
theorem Gs.within {g : Iv × List α} (hg : g ∈ R) {a : α} (ha : a ∈ T) (lt : (f a).1 < (f a).2) (w : g.1.1 ≤ (f a).1 ∧ (f a).2 ≤ g.1.2) : a ∈ g.2 := by
  obtain ⟨g', hg', hag⟩ := (h.mem a).mpr ha
  have s := (h.grp g' hg').sub a hag
  have := h.eq hg hg' (x := (f a).1) (by omega) (by omega) (by omega) (by omega)
  rw [this]
  exact hag
end
/-! ### the ends of stretches, and the law's runs -/
def cov (st : List Iv) (p q : Int) : Bool := st.any fun s => decide (s.1 ≤ p) && decide (q ≤ s.2)
def wth (st : List Iv) (p : Int) : Bool := st.any fun s => decide (s.1 < p) && decide (p < s.2)
theorem cov_iff {st : List Iv} {p q : Int} : cov st p q = true ↔ ∃ s ∈ st, s.1 ≤ p ∧ q ≤ s.2 := by
  unfold cov
  rw [List.any_eq_true]
  refine exists_congr fun s => and_congr_right fun _ => ?_
  rw [Bool.and_eq_true, decide_eq_true_iff, decide_eq_true_iff]
theorem wth_iff {st : List Iv} {p : Int} : wth st p = true ↔ inn st p := by
  unfold wth inn
  rw [List.any_eq_true]
  refine exists_congr fun s => and_congr_right fun _ => ?_
  rw [Bool.and_eq_true, decide_eq_true_iff, decide_eq_true_iff]
section
variable {st : List Iv}
theorem seg_cell {p q : Int} (h : ∀ s ∈ st, (s.1 ≤ p ∨ q ≤ s.1) ∧ (s.2 ≤ p ∨ q ≤ s.2)) {x : Int} (h1 : p ≤ x) (h2 : x < q) : cell st x ↔ cov st p q = true := by
  rw [cov_iff]
  constructor
  · rintro ⟨s, hs, z⟩
    have := h s hs
    exact ⟨s, hs, by omega⟩
  · rintro ⟨s, hs, z⟩
    exact ⟨s, hs, by omega⟩
theorem seg_inn {p q : Int} (h : ∀ s ∈ st, (s.1 ≤ p ∨ q ≤ s.1) ∧ (s.2 ≤ p ∨ q ≤ s.2)) {x : Int} (h1 : p < x) (h2 : x < q) : inn st x ↔ cov st p q = true := by
  rw [cov_iff]
  constructor
  · rintro ⟨s, hs, z⟩
    have := h s hs
    exact ⟨s, hs, by omega⟩
  · rintro ⟨s, hs, z⟩
    exact ⟨s, hs, by omega⟩
theorem ends_sp {I : Int → Prop} (hI : ∀ p, I p → cell st p ∧ cell st (p - 1)) (hS : ∀ p q, (∀ s ∈ st, (s.1 ≤ p ∨ q ≤ s.1) ∧ (s.2 ≤ p ∨ q ≤ s.2)) → ∀ x, p < x → x < q → (I x ↔ cov st p q = true)) :
    ∀ (rest : List Int) (p : Int), (p :: rest).Pairwise (· < ·) → (∀ s ∈ st, (s.1 ≤ p ∨ s.1 ∈ rest) ∧ (s.2 ≤ p ∨ s.2 ∈ rest)) → Sp (cov st) (cell st) I (p :: rest)
  | [], p, _, h => by
    have no : ∀ x, p ≤ x → ¬ cell st x := fun x hx ⟨s, hs, z⟩ => by
      rcases (h s hs).2 with y | y
      · omega
      · cases y
    exact .one no fun x hx z => no x (by omega) (hI x z).1
  | q :: rest, p, pw, h => by
    obtain ⟨p1, p2⟩ := List.pairwise_cons.mp pw
    have pq := p1 q (List.mem_cons_self ..)
    obtain ⟨q1, _⟩ := List.pairwise_cons.mp p2
    have up : ∀ v, v ∈ q :: rest → q ≤ v := fun v hv => by
      rcases List.mem_cons.mp hv with rfl | hv
      · exact Int.le_refl _
      · have := q1 v hv; omega
    have gap : ∀ s ∈ st, (s.1 ≤ p ∨ q ≤ s.1) ∧ (s.2 ≤ p ∨ q ≤ s.2) := fun s hs => ⟨(h s hs).1.imp id (up _), (h s hs).2.imp id (up _)⟩
    refine .cons pq (fun x h1 h2 => seg_cell gap h1 h2) (hS p q gap) (ends_sp hI hS rest q p2 fun s hs => ?_)
    have k : ∀ v, v ≤ p ∨ v ∈ q :: rest → v ≤ q ∨ v ∈ rest := fun v hv => by
      rcases hv with z | z
      · exact .inl (by omega)
      · rcases List.mem_cons.mp z with rfl | z
        · exact .inl (Int.le_refl _)
        · exact .inr z
    exact ⟨k _ (h s hs).1, k _ (h s hs).2⟩
/-- the law's runs of stretches with signs: parted or not -/
def runs (st : List Iv) (parted : Bool) (ends : List Int) : List Iv := go (fun p => !parted || wth st p) (cov st) ends none
/-- a row of ends: in order, each once, all of them and nothing else -/
structure Ends (st : List Iv) (l : List Int) : Prop where
  pw : l.Pairwise (· < ·)
  mem : ∀ v, v ∈ l ↔ ∃ s ∈ st, v = s.1 ∨ v = s.2
theorem runs_parted (ne : ∀ s ∈ st, s.1 < s.2) {l : List Int} (h : Ends st l) : Chn (runs st true l) ∧ (∀ x, cell (runs st true l) x ↔ cell st x) ∧ ∀ x, inn (runs st true l) x ↔ inn st x := by
  have cI : ∀ p, inn st p → cell st p ∧ cell st (p - 1) := fun p ⟨s, hs, z⟩ => ⟨⟨s, hs, by omega⟩, ⟨s, hs, by omega⟩⟩
  cases l with
  | nil =>
    have e : st = [] := by
      cases st with
      | nil => rfl
      | cons s st =>
        have := (h.mem s.1).mpr ⟨s, List.mem_cons_self .., .inl rfl⟩
        cases this
    rw [e]
    exact ⟨⟨fun r hr => absurd hr List.not_mem_nil, List.Pairwise.nil⟩, fun x => Iff.rfl, fun x => Iff.rfl⟩
  | cons p rest =>
    have low : ∀ s ∈ st, p ≤ s.1 := fun s hs => by
      rcases List.mem_cons.mp ((h.mem s.1).mpr ⟨s, hs, .inl rfl⟩) with z | z
      · omega
      · have := (List.pairwise_cons.mp h.pw).1 _ z; omega
    have sp := ends_sp cI (fun p q g x h1 h2 => seg_inn g h1 h2) rest p h.pw fun s hs => by
      have k : ∀ v, v ∈ p :: rest → v ≤ p ∨ v ∈ rest := fun v hv => by
        rcases List.mem_cons.mp hv with rfl | z
        · exact .inl (Int.le_refl _)
        · exact .inr z
      exact ⟨k _ ((h.mem _).mpr ⟨s, hs, .inl rfl⟩), k _ ((h.mem _).mpr ⟨s, hs, .inr rfl⟩)⟩
    obtain ⟨k1, _, k3, k4⟩ := go_ok (J := fun p => !true || wth st p) cI (fun q _ _ => by
      show inn st q ↔ (!true || wth st q) = true
      rw [← wth_iff]
      simp) sp none (fun _ z => nomatch z) (fun _ ⟨s, hs, z⟩ => by have := low s hs; omega)
    refine ⟨k1, fun x => ?_, fun x => ?_⟩
    · rw [show cell (runs st true (p :: rest)) x ↔ _ from k3 x]
      constructor
      · rintro (⟨_, z, _⟩ | z)
        · cases z
        · exact z.2
      · intro z
        obtain ⟨s, hs, y⟩ := id z
        exact .inr ⟨by have := low s hs; omega, z⟩
    · rw [show inn (runs st true (p :: rest)) x ↔ _ from k4 x]
      constructor
      · rintro (⟨_, z, _⟩ | z)
        · cases z
        · exact z.2
      · intro z
        obtain ⟨s, hs, y⟩ := id z
        exact .inr ⟨by have := low s hs; omega, z⟩
theorem runs_whole (ne : ∀ s ∈ st, s.1 < s.2) {l : List Int} (h : Ends st l) : Chn (runs st false l) ∧ (∀ x, cell (runs st false l) x ↔ cell st x) ∧ ∀ x, inn (runs st false l) x ↔ cell st x ∧ cell st (x - 1) := by
  have cI : ∀ p, (cell st p ∧ cell st (p - 1)) → cell st p ∧ cell st (p - 1) := fun p z => z
  cases l with
  | nil =>
    have e : st = [] := by
      cases st with
      | nil => rfl
      | cons s st =>
        have := (h.mem s.1).mpr ⟨s, List.mem_cons_self .., .inl rfl⟩
        cases this
    rw [e]
    exact ⟨⟨fun r hr => absurd hr List.not_mem_nil, List.Pairwise.nil⟩, fun x => Iff.rfl, fun x => ⟨fun z => absurd z inn_nil, fun z => absurd z.1 cell_nil⟩⟩
  | cons p rest =>
    have low : ∀ s ∈ st, p ≤ s.1 := fun s hs => by
      rcases List.mem_cons.mp ((h.mem s.1).mpr ⟨s, hs, .inl rfl⟩) with z | z
      · omega
      · have := (List.pairwise_cons.mp h.pw).1 _ z; omega
    have sp := ends_sp (I := fun x => cell st x ∧ cell st (x - 1)) cI (fun p q g x h1 h2 => by
      rw [seg_cell g (by omega : p ≤ x) h2, seg_cell g (by omega : p ≤ x - 1) (by omega)]
      exact ⟨fun z => z.1, fun z => ⟨z, z⟩⟩) rest p h.pw fun s hs => by
      have k : ∀ v, v ∈ p :: rest → v ≤ p ∨ v ∈ rest := fun v hv => by
        rcases List.mem_cons.mp hv with rfl | z
        · exact .inl (Int.le_refl _)
        · exact .inr z
      exact ⟨k _ ((h.mem _).mpr ⟨s, hs, .inl rfl⟩), k _ ((h.mem _).mpr ⟨s, hs, .inr rfl⟩)⟩
    obtain ⟨k1, _, k3, k4⟩ := go_ok (J := fun p => !false || wth st p) (I := fun x => cell st x ∧ cell st (x - 1)) cI (fun q a b => ⟨fun _ => rfl, fun _ => ⟨a, b⟩⟩) sp none (fun _ z => nomatch z) (fun _ ⟨_, s, hs, z⟩ => by have := low s hs; omega)
    refine ⟨k1, fun x => ?_, fun x => ?_⟩
    · rw [show cell (runs st false (p :: rest)) x ↔ _ from k3 x]
      constructor
      · rintro (⟨_, z, _⟩ | z)
        · cases z
        · exact z.2
      · intro z
        obtain ⟨s, hs, y⟩ := id z
        exact .inr ⟨by have := low s hs; omega, z⟩
    · rw [show inn (runs st false (p :: rest)) x ↔ _ from k4 x]
      constructor
      · rintro (⟨_, z, _⟩ | z)
        · cases z
        · exact z.2
      · intro z
        obtain ⟨s, hs, y⟩ := id z.2
        exact .inr ⟨by have := low s hs; omega, z⟩
/-- joined stretches are the law's whole runs -/
theorem mg_runs {s : Iv} {r : List Iv} (ne : ∀ z ∈ s :: r, z.1 < z.2) (pw : (s :: r).Pairwise (fun a b => a.1 ≤ b.1)) {st : List Iv} (same : ∀ z, z ∈ st ↔ z ∈ s :: r) {l : List Int} (h : Ends st l) : mg s r = runs st false l := by
  obtain ⟨p1, p2⟩ := List.pairwise_cons.mp pw
  obtain ⟨a1, _, a3, a4⟩ := mg_ok r s (ne s (List.mem_cons_self ..)) (fun z hz => ⟨ne z (List.mem_cons_of_mem _ hz), p1 z hz⟩) p2
  obtain ⟨b1, b2, b3⟩ := runs_whole (fun z hz => ne z ((same z).mp hz)) h
  have sc : ∀ x, cell (mg s r) x ↔ cell st x := fun x => by
    rw [a3, ← cell_cons]
    unfold cell
    exact exists_congr fun z => and_congr_left fun _ => (same z).symm
  refine a1.uniq b1 (fun x => by rw [sc, b2]) fun x => ?_
  rw [a4, b3, sc, sc]
/-- settled picks with signs are the law's parted runs -/
theorem Gs.runs {α : Type} {f : α → Iv} {T : List α} {R : List (Iv × List α)} (g : Gs f T R) {st : List Iv} (same : ∀ z, z ∈ st ↔ z.1 < z.2 ∧ ∃ a ∈ T, f a = z) {l : List Int} (h : Ends st l) : ((R.map Prod.fst).filter fun r => decide (r.1 < r.2)) = Pk.runs st true l := by
  obtain ⟨b1, b2, b3⟩ := runs_parted (fun z hz => ((same z).mp hz).1) h
  refine g.chn.uniq b1 (fun x => ?_) fun x => ?_
  · rw [g.cells, b2]
    constructor
    · rintro ⟨z, hz, y⟩
      obtain ⟨a, ha, rfl⟩ := List.mem_map.mp hz
      exact ⟨f a, (same _).mpr ⟨by omega, a, ha, rfl⟩, y⟩
    · rintro ⟨z, hz, y⟩
      obtain ⟨_, a, ha, rfl⟩ := (same z).mp hz
      exact ⟨f a, List.mem_map.mpr ⟨a, ha, rfl⟩, y⟩
  · rw [g.inns, b3]
    constructor
    · rintro ⟨z, hz, y⟩
      obtain ⟨a, ha, rfl⟩ := List.mem_map.mp hz
      exact ⟨f a, (same _).mpr ⟨by omega, a, ha, rfl⟩, y⟩
    · rintro ⟨z, hz, y⟩
      obtain ⟨_, a, ha, rfl⟩ := (same z).mp hz
      exact ⟨f a, List.mem_map.mpr ⟨a, ha, rfl⟩, y⟩
end
/-! ### in order, each once -/
def SL (a b : Iv) : Prop := a.1 < b.1 ∨ (a.1 = b.1 ∧ a.2 < b.2)
theorem SL.irr {a : Iv} (h : SL a a) : False := by unfold SL at h; omega
theorem SL.asym {a b : Iv} (h : SL a b) (g : SL b a) : False := by unfold SL at h g; omega
theorem srt_uniq {β : Type} {k : β → Iv} : ∀ {R S : List β}, R.Pairwise (fun a b => SL (k a) (k b)) → S.Pairwise (fun a b => SL (k a) (k b)) → (∀ x, x ∈ R ↔ x ∈ S) → R = S
  | [], S, _, _, h => by
    cases S with
    | nil => rfl
    | cons s S => exact absurd ((h s).mpr (List.mem_cons_self ..)) List.not_mem_nil
  | r :: R, [], _, _, h => absurd ((h r).mp (List.mem_cons_self ..)) List.not_mem_nil
  | r :: R, s :: S, hR, hS, h => by
    obtain ⟨r1, r2⟩ := List.pairwise_cons.mp hR
    obtain ⟨s1, s2⟩ := List.pairwise_cons.mp hS
    have e : r = s := by
      rcases List.mem_cons.mp ((h r).mp (List.mem_cons_self ..)) with z | z
      · exact z
      · rcases List.mem_cons.mp ((h s).mpr (List.mem_cons_self ..)) with y | y
        · exact y.symm
        · exact (SL.asym (s1 r z) (r1 s y)).elim
    subst e
    refine congrArg (r :: ·) (srt_uniq r2 s2 fun x => ⟨fun z => ?_, fun z => ?_⟩)
    · rcases List.mem_cons.mp ((h x).mp (List.mem_cons_of_mem _ z)) with y | y
      · exact (SL.irr (by have := r1 x z; rw [y] at this; exact this)).elim
      · exact y
    · rcases List.mem_cons.mp ((h x).mpr (List.mem_cons_of_mem _ z)) with y | y
      · exact (SL.irr (by have := s1 x z; rw [y] at this; exact this)).elim
      · exact y
section
variable {α : Type} {f : α → Iv} {T : List α} {R : List (Iv × List α)} (h : Gs f T R)
include h
theorem Gs.srt : R.Pairwise (fun a b => SL a.1 b.1) := by
  refine List.Pairwise.imp_of_mem (fun {a b} ha hb z => ?_) h.sep
  have := (h.grp a ha).le
  unfold Sep at z
  unfold SL
  omega
/-- the stretches of the groups, told by the picks alone -/
theorem Gs.iv (le : ∀ a ∈ T, (f a).1 ≤ (f a).2) {T' : List α} {R' : List (Iv × List α)} (h' : Gs f T' R') (same : ∀ a, a ∈ T ↔ a ∈ T') : R.map Prod.fst = R'.map Prod.fst := by
  have le' : ∀ a ∈ T', (f a).1 ≤ (f a).2 := fun a ha => le a ((same a).mpr ha)
  have e := h.chn.uniq h'.chn (fun x => by
    rw [h.cells, h'.cells]
    unfold cell
    exact exists_congr fun z => and_congr_left fun _ => by rw [List.mem_map, List.mem_map]; exact exists_congr fun a => and_congr_left fun _ => same a) fun x => by
    rw [h.inns, h'.inns]
    unfold inn
    exact exists_congr fun z => and_congr_left fun _ => by rw [List.mem_map, List.mem_map]; exact exists_congr fun a => and_congr_left fun _ => same a
  refine srt_uniq (k := id) (List.pairwise_map.mpr h.srt) (List.pairwise_map.mpr h'.srt) fun x => ?_
  have low : ∀ {R : List (Iv × List α)} {T : List α}, Gs f T R → ∀ {x : Iv}, x ∈ R.map Prod.fst → x.1 ≤ x.2 := fun g x hx => by
    obtain ⟨y, hy, rfl⟩ := List.mem_map.mp hx
    exact (g.grp y hy).le
  have key : x.1 < x.2 → (x ∈ R.map Prod.fst ↔ x ∈ R'.map Prod.fst) := fun lt => by
    have m : ∀ {l : List Iv}, x ∈ l.filter (fun r => decide (r.1 < r.2)) ↔ x ∈ l := fun {l} => by
      rw [List.mem_filter]
      exact ⟨fun z => z.1, fun z => ⟨z, decide_eq_true lt⟩⟩
    rw [← m (l := R.map Prod.fst), e, m]
  have car : ∀ p : Int, (p, p) ∈ R.map Prod.fst ↔ (p, p) ∈ R'.map Prod.fst := fun p => by
    rw [h.carets le, h'.carets le']
    refine and_congr (exists_congr fun a => and_congr_left fun _ => same a) ?_
    exact forall_congr' fun a => by rw [same a]
  rcases Int.lt_or_le x.1 x.2 with c | c
  · exact key c
  · constructor
    · intro hx
      have := low h hx
      have ex : x = (x.1, x.1) := Prod.ext rfl (by show x.2 = x.1; omega)
      rw [ex] at hx ⊢
      exact (car x.1).mp hx
    · intro hx
      have := low h' hx
      have ex : x = (x.1, x.1) := Prod.ext rfl (by show x.2 = x.1; omega)
      rw [ex] at hx ⊢
      exact (car x.1).mpr hx
end
/-! ### picks -/
def lh (a : Iv) : Iv := (min a.1 a.2, max a.1 a.2)
theorem lh_le (a : Iv) : (lh a).1 ≤ (lh a).2 := by show min a.1 a.2 ≤ max a.1 a.2; omega
/-- the pick of a group -/
def pk (g : Iv × List Iv) : Iv := if g.2.all fun a => decide (a.2 ≤ a.1) then (g.1.2, g.1.1) else g.1
/-- the pick of a stretch, by all picks within it -/
def pkT (T : List Iv) (r : Iv) : Iv := if (T.filter fun a => decide (a.1 ≠ a.2) && (decide (r.1 ≤ (lh a).1) && decide ((lh a).2 ≤ r.2))).all fun a => decide (a.2 < a.1) then (r.2, r.1) else r
theorem pk_pkT {T : List Iv} {R : List (Iv × List Iv)} (h : Gs lh T R) {g : Iv × List Iv} (hg : g ∈ R) : pk g = pkT T g.1 := by
  unfold pk pkT
  have gg := h.grp g hg
  have e : (g.2.all fun a => decide (a.2 ≤ a.1)) = ((T.filter fun a => decide (a.1 ≠ a.2) && (decide (g.1.1 ≤ (lh a).1) && decide ((lh a).2 ≤ g.1.2))).all fun a => decide (a.2 < a.1)) := by
    rw [Bool.eq_iff_iff, List.all_eq_true, List.all_eq_true]
    constructor
    · intro z a ha
      obtain ⟨aT, hw⟩ := List.mem_filter.mp ha
      rw [Bool.and_eq_true, Bool.and_eq_true, decide_eq_true_iff, decide_eq_true_iff, decide_eq_true_iff] at hw
      have lt : (lh a).1 < (lh a).2 := by show min a.1 a.2 < max a.1 a.2; have := hw.1; omega
      have := of_decide_eq_true (z a (h.within hg aT lt hw.2))
      exact decide_eq_true (by have := hw.1; omega)
    · intro z a ha
      by_cases c : a.1 = a.2
      · exact decide_eq_true (by omega)
      · have s := gg.sub a ha
        have := of_decide_eq_true (z a (List.mem_filter.mpr ⟨(h.mem a).mp ⟨g, hg, ha⟩, by rw [decide_eq_true c, decide_eq_true s.1, decide_eq_true s.2]; rfl⟩))
        exact decide_eq_true (by omega)
  rw [e]
/-- settled picks are told by the picks alone, in whatever order -/
theorem settled_same {T T' : List Iv} {R R' : List (Iv × List Iv)} (h : Gs lh T R) (h' : Gs lh T' R') (same : ∀ a, a ∈ T ↔ a ∈ T') : R.map pk = R'.map pk := by
  have e := h.iv (fun a _ => lh_le a) h' same
  have a1 : R.map pk = (R.map Prod.fst).map (pkT T) := by
    rw [List.map_map]
    exact List.map_congr_left fun g hg => pk_pkT h hg
  have a2 : R'.map pk = (R'.map Prod.fst).map (pkT T') := by
    rw [List.map_map]
    exact List.map_congr_left fun g hg => pk_pkT h' hg
  rw [a1, a2, e]
  refine List.map_congr_left fun r _ => ?_
  unfold pkT
  have : ((T.filter fun a => decide (a.1 ≠ a.2) && (decide (r.1 ≤ (lh a).1) && decide ((lh a).2 ≤ r.2))).all fun a => decide (a.2 < a.1)) = ((T'.filter fun a => decide (a.1 ≠ a.2) && (decide (r.1 ≤ (lh a).1) && decide ((lh a).2 ≤ r.2))).all fun a => decide (a.2 < a.1)) := by
    rw [Bool.eq_iff_iff, List.all_eq_true, List.all_eq_true]
    refine forall_congr' fun a => ?_
    rw [List.mem_filter, List.mem_filter, same a]
  rw [this]
/-- picks that are settled stay as they are -/
theorem sg_stay {β : Type} {f : β → Iv} : ∀ (r : List β) (a : β), (a :: r).Pairwise (fun x y => Sep (f x) (f y)) → sg f (f a, [a]) r = (a :: r).map fun x => (f x, [x])
  | [], a, _ => rfl
  | b :: r, a, h => by
    obtain ⟨h1, h2⟩ := List.pairwise_cons.mp h
    have s := h1 b (List.mem_cons_self ..)
    have n : ¬ Jn (f a) (f b) := by
      unfold Sep at s
      unfold Jn
      omega
    show (if Jn (f a) (f b) then _ else _) = _
    rw [if_neg n, sg_stay r b h2]
    rfl
theorem pk_one (a : Iv) : pk (lh a, [a]) = a := by
  unfold pk
  have e : ([a].all fun a => decide (a.2 ≤ a.1)) = decide (a.2 ≤ a.1) := by simp
  show (if ([a].all fun a => decide (a.2 ≤ a.1)) = true then ((lh a).2, (lh a).1) else lh a) = a
  rw [e]
  by_cases c : a.2 ≤ a.1
  · rw [if_pos (decide_eq_true c)]
    exact Prod.ext (by show max a.1 a.2 = a.1; omega) (by show min a.1 a.2 = a.2; omega)
  · rw [if_neg (by simpa using c)]
    exact Prod.ext (by show min a.1 a.2 = a.1; omega) (by show max a.1 a.2 = a.2; omega)
theorem lh_pk {g : Iv × List Iv} (h : g.1.1 ≤ g.1.2) : lh (pk g) = g.1 := by
  unfold pk
  split
  · exact Prod.ext (by show min g.1.2 g.1.1 = g.1.1; omega) (by show max g.1.2 g.1.1 = g.1.2; omega)
  · exact Prod.ext (by show min g.1.1 g.1.2 = g.1.1; omega) (by show max g.1.1 g.1.2 = g.1.2; omega)
theorem Gs.sepPk {T : List Iv} {R : List (Iv × List Iv)} (h : Gs lh T R) : (R.map pk).Pairwise (fun x y => Sep (lh x) (lh y)) := by
  rw [List.pairwise_map]
  refine List.Pairwise.imp_of_mem (fun {a b} ha hb z => ?_) h.sep
  rw [lh_pk (h.grp a ha).le, lh_pk (h.grp b hb).le]
  exact z
end Pk

/-! pairs of numbers; min and max of a pair -/
namespace Dk
open PySem PySem.Spec PyProof.Rows L2 PySem.SeqAt PySem.W
/-! min, max of a tuple of two numbers -/
section
variable {prog : Program} {w : World} {A : Around} {E : Value → Shared → Prop} {s : Shared}
theorem min_pair_at {l : Addr} {vs : Array Value} {as : List Addr} {a b : Int} {Q : Value → Shared → Prop} (hh : A.handled = none) (hl : s.heap.IsTuple l vs) (hr : ReadsAll s.heap vs.toList [.int a, .int b] as) (hu : A.units + 10 < cLine)
    (h : ∀ v h' tk, vs[if dataLt (.int b) (.int a) = true then 1 else 0]? = some v → (∀ b o, s.heap.get? b = some o → h'.get? b = some o) → Q v { s with heap := h', toks := tk }) :
    wpAny (model prog w) A (call (.builtin "min") [.ref l]) Q E s := by
  have hn : vs.size = 2 := readsAll_len hr
  have al : AlikeAll [PyData.int a, PyData.int b] := ⟨fun x hx y hy => by simp at hx hy; rcases hx with rfl | rfl <;> rcases hy with rfl | rfl <;> rfl, fun x hx => by simp at hx; rcases hx with rfl | rfl <;> exact fun z => nomatch z⟩
  refine call_min_walkH (iter_tupleW (A := A.in1) hh hl fun s₂ e W st hfp hw hk => ?_)
  refine ⟨_, _, _, _, _, _, _, s.heap, _, rfl, W, st, hfp, by omega, hw, hk, cmpIn_lt (A := A.in1) hr al (by show A.units + 1 + 0 < _; omega), fun v s' hP m => ?_⟩
  obtain ⟨h', tk, rfl, hk'⟩ := moved_old e rfl m
  rw [hn] at hP
  exact h v h' tk hP hk'
theorem max_pair_at {l : Addr} {vs : Array Value} {as : List Addr} {a b : Int} {Q : Value → Shared → Prop} (hh : A.handled = none) (hl : s.heap.IsTuple l vs) (hr : ReadsAll s.heap vs.toList [.int a, .int b] as) (hu : A.units + 10 < cLine)
    (h : ∀ v h' tk, vs[if dataLt (.int a) (.int b) = true then 1 else 0]? = some v → (∀ b o, s.heap.get? b = some o → h'.get? b = some o) → Q v { s with heap := h', toks := tk }) :
    wpAny (model prog w) A (call (.builtin "max") [.ref l]) Q E s := by
  have hn : vs.size = 2 := readsAll_len hr
  have al : AlikeAll [PyData.int a, PyData.int b] := ⟨fun x hx y hy => by simp at hx hy; rcases hx with rfl | rfl <;> rcases hy with rfl | rfl <;> rfl, fun x hx => by simp at hx; rcases hx with rfl | rfl <;> exact fun z => nomatch z⟩
  refine call_max_walkH (iter_tupleW (A := A.in1) hh hl fun s₂ e W st hfp hw hk => ?_)
  refine ⟨_, _, _, _, _, _, _, s.heap, _, rfl, W, st, hfp, by omega, hw, hk, cmpIn_gt (A := A.in1) hr al (by show A.units + 1 + 0 < _; omega), fun v s' hP m => ?_⟩
  obtain ⟨h', tk, rfl, hk'⟩ := moved_old e rfl m
  rw [hn] at hP
  exact h v h' tk hP hk'
end
def rMinP (K : PySem.W.Frag) : List V → Hp → VK → Prop := fun vs H Q => ∃ (p : Addr) (a b : Int), vs = [.ref p] ∧ SqT K H p [.int a, .int b] ∧ Q (.int (min a b)) H
def rMaxP (K : PySem.W.Frag) : List V → Hp → VK → Prop := fun vs H Q => ∃ (p : Addr) (a b : Int), vs = [.ref p] ∧ SqT K H p [.int a, .int b] ∧ Q (.int (max a b)) H
theorem call_minP {X : Cx} (hc : X.calm = true) (hu : X.A.units + 65 < cLine) : CallR X (.builtin "min") (rMinP X.K) := by
  intro pins s σ H vs us Q I r h
  obtain ⟨p, a, b, rfl, hp, q⟩ := h
  rw [Vals.ref1 r]
  obtain ⟨its, rv, pt, _⟩ := I.tuple hp
  obtain ⟨as, hr⟩ : ∃ as, ReadsAll s.heap its [.int a, .int b] as := dpall_reads I (.cons (.int a) (.cons (.int b) .nil)) rv
  refine min_pair_at (I.ok.hd hc) (show s.heap.IsTuple p its.toArray from pt) (by simpa using hr) (by omega) fun v h' tk hv k => ?_
  obtain ⟨x, hx, rx⟩ := Zp.vals_at rv (by simpa using hv)
  refine ⟨x, H, I.kept k, rx, ?_⟩
  rw [PySem.W.dataLt_int] at hx
  by_cases c : b < a
  · rw [if_pos (decide_eq_true c)] at hx
    cases hx
    rw [show min a b = b by omega] at q
    exact q
  · rw [if_neg (by simpa using c)] at hx
    cases hx
    rw [show min a b = a by omega] at q
    exact q
theorem call_maxP {X : Cx} (hc : X.calm = true) (hu : X.A.units + 65 < cLine) : CallR X (.builtin "max") (rMaxP X.K) := by
  intro pins s σ H vs us Q I r h
  obtain ⟨p, a, b, rfl, hp, q⟩ := h
  rw [Vals.ref1 r]
  obtain ⟨its, rv, pt, _⟩ := I.tuple hp
  obtain ⟨as, hr⟩ : ∃ as, ReadsAll s.heap its [.int a, .int b] as := dpall_reads I (.cons (.int a) (.cons (.int b) .nil)) rv
  refine max_pair_at (I.ok.hd hc) (show s.heap.IsTuple p its.toArray from pt) (by simpa using hr) (by omega) fun v h' tk hv k => ?_
  obtain ⟨x, hx, rx⟩ := Zp.vals_at rv (by simpa using hv)
  refine ⟨x, H, I.kept k, rx, ?_⟩
  rw [PySem.W.dataLt_int] at hx
  by_cases c : a < b
  · rw [if_pos (decide_eq_true c)] at hx
    cases hx
    rw [show max a b = b by omega] at q
    exact q
  · rw [if_neg (by simpa using c)] at hx
    cases hx
    rw [show max a b = a by omega] at q
    exact q
theorem k_minP {X : Cx} {K : PySem.W.Frag} (h : X.K = K) (hc : X.calm = true) (hu : X.A.units + 65 < cLine) : CallR X (.builtin "min") (rMinP K) := h ▸ call_minP hc hu
theorem k_maxP {X : Cx} {K : PySem.W.Frag} (h : X.K = K) (hc : X.calm = true) (hu : X.A.units + 65 < cLine) : CallR X (.builtin "max") (rMaxP K) := h ▸ call_maxP hc hu
theorem r_continue {σ : L2.St} {H : Hp} {D : Ends} (q : D.ct σ H) : tCont D σ H := q
/-! pairs -/
abbrev Iv := Pk.Iv
def PrV (H : Hp) (v : V) (x : Iv) : Prop := ∃ p : Addr, v = .ref p ∧ H p = some (.tup [.int x.1, .int x.2])
instance : Imm PrV := ⟨fun t h => h.imp fun p z => ⟨z.1, t _ _ z.2⟩⟩
abbrev PrL (H : Hp) : List V → List Iv → Prop := P2 (PrV H)
theorem prl_imm {H H' : Hp} {xs : List V} {l : List Iv} (t : Tk H H') (h : PrL H xs l) : PrL H' xs l := p2_imm t h
section
variable {K : PySem.W.Frag} {σ : L2.St} {H H' : Hp} {Q : VK} {v : V} {x : Iv} {N : L2.St → Hp → Prop} {t : TGs}
theorem r_minP (h : PrV H v x) (q : Q (.int (min x.1 x.2)) H) : rMinP K [v] H Q := by
  obtain ⟨p, rfl, hp⟩ := h
  exact ⟨p, _, _, rfl, sqT hp, q⟩
theorem r_maxP (h : PrV H v x) (q : Q (.int (max x.1 x.2)) H) : rMaxP K [v] H Q := by
  obtain ⟨p, rfl, hp⟩ := h
  exact ⟨p, _, _, rfl, sqT hp, q⟩
theorem r_gPr (h : PrV H v x) (k : t [.int x.1, .int x.2] σ H N) : gTup K 2 t v σ H N := by
  obtain ⟨p, rfl, hp⟩ := h
  exact r_gtup (sqT hp) rfl k
theorem r_ixPr0 (h : PrV H v x) (q : Q (.int x.1) H) : rIx K v (.int 0) H Q := by
  obtain ⟨p, rfl, hp⟩ := h
  exact r_ixT (sqT hp) (atI_nat (j := 0) rfl) q
theorem r_ixPr1 (h : PrV H v x) (q : Q (.int x.2) H) : rIx K v (.int 1) H Q := by
  obtain ⟨p, rfl, hp⟩ := h
  exact r_ixT (sqT hp) (atI_nat (j := 1) rfl) q
/-- a new pair: H2 is the heap with it -/
theorem r_mkPr {a b : Int} {P : V → Hp → Prop} (q : ∀ p H2, H p = none → H2 = upd H p (.tup [.int a, .int b]) → Ex H H2 → PrV H2 (.ref p) (a, b) → P (.ref p) H2) : [V.int a, V.int b].length ≤ sizeLine ∧ ∀ p, H p = none → P (.ref p) (upd H p (.tup [V.int a, V.int b])) :=
  r_small nsz fun p hp => q p _ hp rfl (Same.new (Same.refl H) hp) ⟨p, rfl, upd_same⟩
end
theorem newPr {H : Hp} {p : Addr} (hp : H p = none) (a b : Int) : ∃ H2, H2 = upd H p (.tup [.int a, .int b]) ∧ Ex H H2 ∧ PrV H2 (.ref p) (a, b) := ⟨_, rfl, Same.new (Same.refl H) hp, p, rfl, upd_same⟩
/-! sorted of pairs -/
theorem pk_key (H : Hp) : ∃ k : V → Int × Int, ∀ v x, PrV H v x → k v = x := by
  refine ⟨fun v => match v with
    | .ref p => (match H p with
      | some (.tup [.int a, .int b]) => (a, b)
      | _ => (0, 0))
    | _ => (0, 0), fun v x h => ?_⟩
  obtain ⟨p, rfl, hp⟩ := h
  show (match H p with
      | some (.tup [.int a, .int b]) => (a, b)
      | _ => (0, 0)) = x
  rw [hp]
/-- sorted(list of pairs): a new list, in order, with the same pairs -/
theorem r_sortPr {K : PySem.W.Frag} {H : Hp} {Q : VK} {p : Addr} {xs : List V} {l : List Iv} (hp : SqL K H p xs) (h : PrL H xs l)
    (q : ∀ ys m d, PrL H ys m → m.Pairwise Pk.Lx → m.Perm l → H d = none → Q (.ref d) (upd H d (.lst ys))) : rSortedPO K [.ref p] H Q := by
  obtain ⟨k, hk⟩ := pk_key H
  refine ⟨p, xs, k, rfl, hp, fun x hx => ?_, fun ys d h1 h2 hd => ?_⟩
  · obtain ⟨i, hi⟩ := List.mem_iff_getElem?.mp hx
    obtain ⟨y, hy, hr⟩ := h.get hi
    obtain ⟨t, rfl, ht⟩ := id hr
    have e := hk _ _ hr
    exact ⟨t, rfl, by rw [e]; exact ht⟩
  · have all : ∀ v ∈ ys, PrV H v (k v) := fun v hv => by
      obtain ⟨i, hi⟩ := List.mem_iff_getElem?.mp (h2.perm.mem_iff.mp hv)
      obtain ⟨y, hy, hr⟩ := h.get hi
      rw [hk _ _ hr]
      exact hr
    have e : l = xs.map k := by
      clear q h2 hp
      induction h with
      | nil => rfl
      | cons h t ih => rw [List.map_cons, hk _ _ h, ← ih]
    refine q ys (ys.map k) d ?_ ?_ ?_ hd
    · clear h1 h2
      induction ys with
      | nil => exact .nil
      | cons v r ih => exact .cons (all v (List.mem_cons_self ..)) (ih fun u hu => all u (List.mem_cons_of_mem _ hu))
    · refine List.pairwise_map.mpr (h1.imp fun {a b} g => ?_)
      have := SrtO.lexB_no.mp g
      unfold Pk.Lx
      omega
    · rw [e]
      exact h2.perm.map k
theorem r_bm0 {K : PySem.W.Frag} {T : String} {r : V → List V → Hp → VK → Prop} {to : TE} {σ : L2.St} {H : Hp} {Q : VK} (h : to σ H fun x H1 => tyV K T x H1 ∧ r x [] H1 Q) : tBM0 K T r to σ H Q := h
/-- xs.pop() -/
theorem r_popE {H : Hp} {Q : VK} {p : Addr} {xs : List V} {y : V} (h : H p = some (.lst (xs ++ [y]))) (q : Q y (upd H p (.lst xs))) : rPop (.ref p) [] H Q :=
  ⟨p, _, y, rfl, rfl, h, by rw [List.length_append, List.length_singleton, Nat.add_sub_cancel, List.getElem?_append_right (Nat.le_refl _), Nat.sub_self]; rfl, by rw [List.dropLast_concat]; exact q⟩
/-- over zip(tuple, list) of one length -/
theorem l_ZTL {K : PySem.W.Frag} {a b : Addr} {xs ys : List V} {g : TG} {tb : TS} {D : Ends} {σ : L2.St} {H : Hp} (hx0 : SqT K H a xs) (hy0 : SqL K H b ys) (hl : xs.length = ys.length) (Pv : Nat → L2.St → Hp → Prop) (p0 : Pv 0 σ H)
    (hk : ∀ i σ H, Pv i σ H → SqT K H a xs ∧ SqL K H b ys)
    (ht : ∀ i x y σ H p, xs[i]? = some x → ys[i]? = some y → Pv i σ H → H p = none → g (.ref p) σ (upd H p (.tup [x, y])) fun σ2 H2 => tb { D with nx := Pv (i + 1), ct := Pv (i + 1), bk := D.nx } σ2 H2)
    (hd : ∀ σ H, Pv xs.length σ H → D.nx σ H) :
    ∃ k1 k2 : Zp.Kd, [V.ref a, V.ref b] = [k1.v, k2.v] ∧ (∃ xs, k1.has K H xs) ∧ (∃ ys, k2.has K H ys) ∧ LoopW (Zp.ItzK K k1 k2) g tb D σ H := by
  refine ⟨.t a, .l b, rfl, ⟨xs, hx0⟩, ⟨ys, hy0⟩, for_it (Zp.walk_zipK (xs := xs) (ys := ys) (by first | rfl | exact hl)) Pv p0 (fun i σ H _ p => hk i σ H p) (fun i v σ H H' hi p yy => ?_) fun σ H p => hd σ H ?_⟩
  · obtain ⟨T, x, y, rfl, hT, rfl, ha, hb⟩ := yy
    exact ht i x y σ H T ha hb p hT
  · rw [hl, Nat.min_self] at p
    rw [hl]
    exact p
/-- sorted(set(xs)) -/
theorem r_setSort {K : PySem.W.Frag} {w : World} {σ : L2.St} {H : Hp} {Q : VK} {C : Addr} {ns : List Int} (hC : SqL K H C (ns.map V.int)) (hl : ns.length ≤ 4000)
    (k : ∀ (m : List Int) (d : Addr) (H' : Hp), Ex H H' → m.Pairwise (· < ·) → (∀ x, x ∈ m ↔ x ∈ ns) → H' d = some (.lst (m.map V.int)) → Q (.ref d) H') : Sx.rSetL K w [V.ref C] H (fun x H1 => tNil σ H1 fun xs H2 => Sx.rSortSU w (x :: xs) H2 Q) := by
  refine ⟨C, ns, rfl, hC, hl, fun p3 c hc hp3 => ⟨p3, _, c, rfl, upd_same, by omega, fun m d hpw hmem hd => ?_⟩⟩
  exact k m d _ ((Same.new (Same.refl H) hp3).trans (Same.new (Same.refl _) hd)) hpw (fun x => by rw [hmem, decide_eq_true_iff]) upd_same
/-! a comprehension over a text -/
theorem r_lcSo {tl : TE} {g : TG} {tt : TT} {te : TE} {vs : List Nat} {σ : L2.St} {H : Hp} {Q : VK} (h : tl σ H fun x H1 => ∃ z, x = .str z ∧ ∀ D, H1 D = none → ∃ W : Nat → Nat → Hp → Prop, (∃ m, W 0 m (upd H1 D (.lst []))) ∧ ∀ i m H, W i m H →
  ((Its z).stop i H ∧ Q (.ref D) H) ∨ ((Its z).go i H ∧ ∃ Nx : Hp → Prop, (∀ H', Nx H' → ∃ m', m' < m ∧ W (i + 1) m' H') ∧ ∀ x H', (Its z).yld i H x H' → g x (wipe σ vs) H' fun σ2 H2 => wipe σ2 vs = wipe σ vs ∧ tt σ2 H2 fun b H3 =>
    if b = true then te σ2 H3 fun y H4 => ∃ acc, H4 D = some (.lst acc) ∧ acc.length < sizeLine ∧ Nx (upd H4 D (.lst (acc ++ [y]))) else Nx H3)) : tLc (iStr tl) g tt te vs σ H Q := h
theorem l_lcS {z : Str} {g : TG} {tt : TT} {te : TE} {vs : List Nat} {σ : L2.St} {H1 : Hp} {Qd : Addr → Hp → Prop} (Pv : Addr → Nat → Hp → Prop) (h0 : ∀ D, H1 D = none → Pv D 0 (upd H1 D (.lst [])))
    (hs : ∀ D (i : Nat) c H, H1 D = none → (cs z)[i]? = some c → Pv D i H → g (.str ⟨#[c]⟩) (wipe σ vs) H fun σ2 H2 => wipe σ2 vs = wipe σ vs ∧ tt σ2 H2 fun b H3 =>
      if b = true then te σ2 H3 fun y H4 => ∃ acc, H4 D = some (.lst acc) ∧ acc.length < sizeLine ∧ Pv D (i + 1) (upd H4 D (.lst (acc ++ [y]))) else Pv D (i + 1) H3) (hd : ∀ D H, H1 D = none → Pv D z.length H → Qd D H) :
    ∃ y, V.str z = .str y ∧ ∀ D, H1 D = none → ∃ W : Nat → Nat → Hp → Prop, (∃ m, W 0 m (upd H1 D (.lst []))) ∧ ∀ i m H, W i m H →
  ((Its y).stop i H ∧ Qd D H) ∨ ((Its y).go i H ∧ ∃ Nx : Hp → Prop, (∀ H', Nx H' → ∃ m', m' < m ∧ W (i + 1) m' H') ∧ ∀ x H', (Its y).yld i H x H' → g x (wipe σ vs) H' fun σ2 H2 => wipe σ2 vs = wipe σ vs ∧ tt σ2 H2 fun b H3 =>
    if b = true then te σ2 H3 fun y H4 => ∃ acc, H4 D = some (.lst acc) ∧ acc.length < sizeLine ∧ Nx (upd H4 D (.lst (acc ++ [y]))) else Nx H3) :=
  ⟨z, rfl, fun D hD => lc_it walk_str (Pv D) (h0 D hD) (fun _ _ _ _ => trivial) (fun i x H H' hi p y => by
    obtain ⟨rfl, c, hc, rfl⟩ := y
    exact hs D i c _ hD (by rw [Array.getElem?_toList]; exact hc) p) fun H p => hd D H hD p⟩
theorem exm_self {K : PySem.W.Frag} {S : Addr} (h1 : PySem.W.subIn K (.ref S) (.type "BaseException") = some true) (h2 : PySem.W.isClsIn K S = true) (h3 : PySem.W.typeIn K (.ref S) = some (.type "type")) (h4 : PySem.W.subIn K (.ref S) (.ref S) = some true) :
    PySem.W.exmOne K (.ref S) (.ref S) = some true := by
  have e1 : (PySem.W.subIn K (.ref S) (.type "BaseException") == some true) = true := by rw [h1] <;> rfl
  have e2 : ((PySem.W.clsIn K S).isSome && PySem.W.typeIn K (.ref S) == some (.type "type")) = true := by
    have h2' : (PySem.W.clsIn K S).isSome = true := h2
    rw [h2', h3] <;> rfl
  show (if (PySem.W.subIn K (.ref S) (.type "BaseException") == some true) = true then (if ((PySem.W.clsIn K S).isSome && PySem.W.typeIn K (.ref S) == some (.type "type")) = true then PySem.W.subIn K (.ref S) (.ref S) else none) else none) = some true
  rw [if_pos e1, if_pos e2]
  exact h4
/-! a flow of draws: [state, count, pool] -/
def flow (M : Int) (f p : Addr) : Box where
  A := fun x => x = f ∨ x = p
  B := fun H => p ≠ f ∧ ∃ (z k : Int) (ns : List Int), H f = some (.lst [.int z, .int k, .ref p]) ∧ H p = some (.lst (ns.map V.int)) ∧ ns.length ≤ 63 ∧ 0 ≤ z ∧ z < M
  live := fun H h x a => by
    obtain ⟨_, k, z, ns, h1, h2, _⟩ := h
    rcases a with rfl | rfl
    · exact ⟨_, h1⟩
    · exact ⟨_, h2⟩
  keep := fun H H' h e => by
    obtain ⟨n, k, z, ns, h1, h2, h3⟩ := h
    exact ⟨n, k, z, ns, e _ _ (.inl rfl) h1, e _ _ (.inr rfl) h2, h3⟩
def spDrawsF (M : Int) (K : PySem.W.Frag) : Sp := fun vs H Q _ => ∃ (a : Addr) (ns : List Int), vs = [.ref a] ∧ SqL K H a (ns.map V.int) ∧ ns.length ≤ 63 ∧ ∀ f p H', Ex H H' → H f = none → H p = none → (flow M f p).B H' → Q (.ref f) H'
def spTakeF (M : Int) : Sp := fun vs H Q _ => ∃ (f p : Addr) (n : Int), vs = [.ref f, .int n] ∧ (flow M f p).B H ∧ 0 < n ∧ n < 1000000 ∧ ∀ (v : Nat) H', (v : Int) < n → Drw (flow M f p) H H' → Q (.int (v : Nat)) H'
theorem int_map {ns : List Int} {i : Nat} {x : V} (hx : (ns.map V.int)[i]? = some x) : ∃ c, ns[i]? = some c ∧ x = V.int c := by
  rw [List.getElem?_map] at hx
  cases e : ns[i]? with
  | none => rw [e] at hx; cases hx
  | some c => rw [e] at hx; exact ⟨c, rfl, (Option.some.inj hx).symm⟩
theorem cmul_s {i j : Int} (h1 : -(2 ^ 64) < j := by decide) (h2 : j < 2 ^ 64 := by decide) : CMul i j := .inr ⟨h1, h2⟩
end Dk

/-! sorted(tuple, key=a def that makes a pair of numbers) -/
namespace Sy
open PySem PySem.Spec PyProof.Rows L2 Dk
theorem perm_up {α β : Type} (f : α → β) : ∀ {p : List β} {q : List β}, p.Perm q → ∀ t : List α, t.map f = q → ∃ t' : List α, t'.Perm t ∧ t'.map f = p := by
  intro p q h
  induction h with
  | nil => intro t e; exact ⟨t, List.Perm.refl _, e⟩
  | cons x h ih =>
    intro t e
    cases t with
    | nil => cases e
    | cons a t =>
      rw [List.map_cons] at e
      obtain ⟨e1, e2⟩ := List.cons.inj e
      obtain ⟨t', h1, h2⟩ := ih t e2
      exact ⟨a :: t', h1.cons a, by rw [List.map_cons, h2, e1]⟩
  | swap x y l =>
    intro t e
    match t, e with
    | a :: b :: t, e =>
      rw [List.map_cons, List.map_cons] at e
      obtain ⟨e1, e2⟩ := List.cons.inj e
      obtain ⟨e2, e3⟩ := List.cons.inj e2
      exact ⟨b :: a :: t, List.Perm.swap _ _ _, by rw [List.map_cons, List.map_cons, e1, e2, e3]⟩
  | trans h1 h2 ih1 ih2 =>
    intro t e
    obtain ⟨t1, k1, k2⟩ := ih2 t e
    obtain ⟨t2, j1, j2⟩ := ih1 t1 k2
    exact ⟨t2, j1.trans k1, j2⟩
/-- the emptied list -/
def emp (a : Addr) (e : Nat) : HO := .ext fun h => h.get? a = some (seqObj "list" #[] e)
section
variable {X : Cx} {pins : List (Addr × Obj)} {σ : L2.St} {s : Shared} {H : Hp} {k : Nat} {f : Addr} {fd : FuncData} {ps : List Str} {sp : Sp} {E : XK}
theorem emp_get {a : Addr} {e : Nat} (I : Inv X pins σ H s) (h : H a = some (emp a e)) : s.heap.get? a = some (seqObj "list" #[] e) := (I.hok a _ h).1
theorem emp_ok {a : Addr} {e : Nat} {h : Heap} {H' : Hp} (q : h.get? a = some (seqObj "list" #[] e)) : ObjOk X.prog X.w H' h a (emp a e) := ⟨q, ⟨_, q⟩, fun h1 h2 g1 g2 => g2 _ g1⟩
theorem turn_ok {x : V} {u : Value} {Q : VK} (F : FnOk X.prog X.w X.K X.mg X.base CX0 k f fd ps sp) (hb : Binds X.K fd ps []) (hr : Room (k + 2) X.A) (I : Inv X pins σ H s) (r : RelV x u) (h : sp [x] H Q E) :
    wpAny (model X.prog X.w) X.A.in1.in1 (call (.ref f) [u]) (EP X pins σ Q) (fun _ _ => False) s := by
  have r2 : Vals [x] [u] := .cons r .nil
  have hl : ([u] ++ ([] : List Value)).length = ps.length := by rw [List.append_nil, ← r2.length]; exact F.len _ _ _ _ h
  have hr2 : Room k X.A.in1.in1 := (show Room (k + 1) X.A.in1 from Room.in1 hr).in1
  have hbb := hb s [u] I.kIn hl
  rw [List.append_nil] at hbb
  refine wpAny_call (codeAny_mono (F.run X.A.in1.in1 X.stack s H ⟨[u], []⟩ [u] [x] Q E hr2 I.env0.in1.in1 hbb r2 h) fun r s' hq => ?_)
  cases r with
  | error e => exact False.elim hq
  | ok fl =>
    cases fl with
    | ret u => exact I.after hq
    | next => exact False.elim hq
    | brk => exact False.elim hq
    | cont => exact False.elim hq
variable {α : Type} {R : Hp → V → α → Prop} [Imm R] {κ : α → Iv}
/-- what the key promises -/
def KeyOk (sp : Sp) (E : XK) (R : Hp → V → α → Prop) (κ : α → Iv) (H : Hp) (l : List α) : Prop := ∀ H' x a, Ex H H' → a ∈ l → R H' x a → sp [x] H' (fun v H2 => Ex H' H2 ∧ PrV H2 v (κ a)) E
theorem vals_get {xs : List V} {us : List Value} (r : Vals xs us) {i : Nat} {u : Value} (h : us[i]? = some u) : ∃ x, xs[i]? = some x ∧ RelV x u := by
  induction r generalizing i with
  | nil => cases h
  | cons r t ih =>
    cases i with
    | zero => exact ⟨_, rfl, by cases h; exact r⟩
    | succ i => exact ih h
theorem vals_snoc {xs : List V} {us : List Value} {x : V} {u : Value} (r : Vals xs us) (h : RelV x u) : Vals (xs ++ [x]) (us ++ [u]) := r.append (.cons h .nil)
theorem p2_snoc {β γ : Type} {S : β → γ → Prop} {xs : List β} {l : List γ} {x : β} {a : γ} (r : P2 S xs l) (h : S x a) : P2 S (xs ++ [x]) (l ++ [a]) := by
  induction r with
  | nil => exact .cons h .nil
  | cons r t ih => exact .cons r ih
/-- the loop over the items: the keys lie in the store -/
theorem rest_ok {a kS : Addr} {e1 : Nat} {H0 : Hp} {vs : List Value} {xs : List V} {l : List α} {P : PySem.Fin → Shared → Prop} {E' : Value → Shared → Prop} (F : FnOk X.prog X.w X.K X.mg X.base CX0 k f fd ps sp) (hb : Binds X.K fd ps []) (hr : Room (k + 2) X.A)
    (hk : KeyOk sp E R κ H0 l) (rx : Vals xs vs) (rl : P2 (R H0) xs l) (hl : l.length ≤ 1000) (I : Inv X pins σ H s) (e0 : Ex H0 H) (na : H0 a = none) (nk : H0 kS = none) (hka : kS ≠ a) (ha : H a = some (emp a e1)) (hkS : H kS = some (.lst []))
    (h : ∀ H' s' ks kv n, Inv X pins σ H' s' → Ex H0 H' → H' a = some (emp a e1) → H' kS = some (.lst ks) → P2 (PrV H') ks (l.map κ) → Vals ks kv → s'.heap.get? kS = some (seqObj "list" kv.toArray n) → wpAny (model X.prog X.w) X.A.in1.in1 (ksk_end a false vs.toArray e1 (.ref kS) kv.toArray) P E' s') :
    wpAny (model X.prog X.w) X.A.in1.in1 (ksk_rest a (.ref f) false vs.toArray e1 (.ref kS)) P E' s := by
  have hlen : vs.length ≤ 1000 := by rw [← rx.length, rl.len]; exact hl
  unfold ksk_rest
  refine wpAny_bind (wpAny_rule ?_)
  first
    | rw [List.forIn_toArray]
    | (rw [← Array.forIn_toList]; simp only [List.toList_toArray])
    | rw [← Array.forIn_toList]
  refine wpAny_bind (ksk_fold (fun i s' => ∃ H' ks, Inv X pins σ H' s' ∧ Ex H0 H' ∧ H' a = some (emp a e1) ∧ H' kS = some (.lst ks) ∧ P2 (PrV H') ks ((l.take i).map κ)) vs 0 s
    ⟨H, [], I, e0, ha, hkS, .nil⟩ ?step ?done)
  case step =>
    rintro j u s' hu ⟨H', ks, I', e', ha', hk', p'⟩
    simp only [Nat.zero_add] at p' ⊢
    obtain ⟨x, hx, rxu⟩ := vals_get rx hu
    obtain ⟨y, hy, ry⟩ := rl.get hx
    refine wpAny_bind (wpAny_attempt (wpAny_mono (turn_ok F hb hr I' rxu (hk H' x y e' (List.mem_of_getElem? hy) (imm (.ex e') ry))) (fun v s'' he => ?_) fun _ _ hF => hF.elim))
    obtain ⟨z, H2, I2, rz, e2, pz⟩ := he
    try dsimp only
    obtain ⟨hz, its, n, ri, hg⟩ := I2.hok kS _ (e2 _ _ hk')
    have jl : j < l.length := (List.getElem?_eq_some_iff.mp hy).1
    have kl : ks.length = j := by rw [p'.len, List.length_map, List.length_take]; omega
    have il : its.length = j := by rw [← ri.length]; exact kl
    obtain ⟨c2, hc2⟩ : ∃ c2, (s''.heap.update kS (Obj.mapSeq (·.push v))).get? kS = some (seqObj "list" (its.toArray.push v) c2) := ⟨_, get?_update_seq hg (·.push v)⟩
    refine wpAny_bind (listUpdate_at hg rfl ?_ (by rw [List.size_toArray, sizeLine_eq]; omega) (by rw [Array.size_push, List.size_toArray, sizeLine_eq]; omega))
    have sb := Heap.SameBut.update s''.heap kS (Obj.mapSeq (·.push v))
    have ea : its.toArray.push v = (its ++ [v]).toArray := by simp
    refine wpAny_pure ⟨rfl, upd H2 kS (.lst (ks ++ [z])), ks ++ [z], I2.write (e := kS) (t' := s''.toks) (by rw [e2 _ _ hk']; trivial) (.inl rfl) (fun b u hb hu => (sb.2 b hb).trans hu) ⟨_, hc2⟩ ⟨by rw [List.length_append, List.length_singleton, sizeLine_eq]; omega, its ++ [v], c2, vals_snoc ri rz, by rw [hc2, ea]⟩,
      Same.mut (e'.trans e2) nk, ?_, upd_same, ?_⟩
    · rw [upd_ne hka.symm]
      exact e2 _ _ ha'
    · have tk : Tk H2 (upd H2 kS (.lst (ks ++ [z]))) := Tk.put (e2 _ _ hk')
      have et : (l.take (j + 1)).map κ = (l.take j).map κ ++ [κ y] := by rw [List.take_add_one, hy]; simp
      rw [et]
      exact p2_snoc (prl_imm tk (prl_imm (.ex e2) p')) (imm tk pz)
  case done =>
    rintro s' ⟨H', ks, I', e', ha', hk', p'⟩
    have et : l.take (0 + vs.length) = l := List.take_of_length_le (by rw [← rx.length, rl.len]; omega)
    rw [et] at p'
    obtain ⟨hz, its, n, ri, hg⟩ := I'.hok kS _ hk'
    refine wpAny_bind (listItems_at hg rfl ?_)
    exact h H' s' ks its n I' e' ha' hk' p' ri hg
theorem key_pairs {h : Heap} {k0 : V → Int × Int} (hok : HOk X.prog X.w H h) (hk : ∀ v x, PrV H v x → k0 v = x) : ∀ {ks : List V} {kv : List Value} {l : List α}, P2 (PrV H) ks (l.map κ) → Vals ks kv →
    P2 (fun (key : Value) (a : α) => k0 (backV key) = κ a ∧ Srt.IsPair h key (κ a).1 (κ a).2) kv l := by
  intro ks kv l
  induction l generalizing ks kv with
  | nil =>
    intro p r
    rw [List.map_nil] at p
    cases p
    cases r
    exact .nil
  | cons a l ih =>
    intro p r
    rw [List.map_cons] at p
    cases p with
    | cons p t =>
      cases r with
      | cons r rt =>
        refine .cons ?_ (ih t rt)
        have e := hk _ _ p
        obtain ⟨q, rfl, hq⟩ := p
        cases r
        refine ⟨e, ?_⟩
        obtain ⟨_, its2, r2, o, ho, hc, n, hd⟩ := hok _ _ hq
        obtain ⟨u1, u2, rfl, ri, rj⟩ := vals2 r2
        obtain ⟨t1, rfl⟩ := ri
        obtain ⟨t2, rfl⟩ := rj
        exact ⟨q, o, t1, t2, n, rfl, ho, hc, hd⟩
theorem join_up {S : Value → α → Prop} {G : Hp} : ∀ {xs : List V} {l : List α}, P2 (R G) xs l → ∀ {vs kv : List Value}, Vals xs vs → P2 S kv l →
    ∃ T : List (Value × Value × V × α), T.map (fun t => (t.1, t.2.1)) = kv.zip vs ∧ T.map (fun t => t.2.2.2) = l ∧ ∀ t ∈ T, S t.1 t.2.2.2 ∧ RelV t.2.2.1 t.2.1 ∧ R G t.2.2.1 t.2.2.2 := by
  intro xs l p
  induction p with
  | nil => intro vs kv r q; cases r; cases q; exact ⟨[], rfl, rfl, fun t h => nomatch h⟩
  | @cons x y xs l p t ih =>
    intro vs kv r q
    cases r with
    | cons r rt =>
      cases q with
      | cons q qt =>
        obtain ⟨T, h1, h2, h3⟩ := ih rt qt
        refine ⟨(_, _, x, y) :: T, by rw [List.map_cons, h1]; rfl, by rw [List.map_cons, h2], fun t ht => ?_⟩
        rcases List.mem_cons.mp ht with rfl | ht
        · exact ⟨q, r, p⟩
        · exact h3 t ht
theorem vals_map {T : List (Value × Value × V × α)} (h : ∀ t ∈ T, RelV t.2.2.1 t.2.1) : Vals (T.map fun t => t.2.2.1) (T.map fun t => t.2.1) := by
  induction T with
  | nil => exact .nil
  | cons t T ih => exact .cons (h t (List.mem_cons_self ..)) (ih fun u hu => h u (List.mem_cons_of_mem _ hu))
theorem p2_map {G : Hp} {T : List (Value × Value × V × α)} (h : ∀ t ∈ T, R G t.2.2.1 t.2.2.2) : P2 (R G) (T.map fun t => t.2.2.1) (T.map fun t => t.2.2.2) := by
  induction T with
  | nil => exact .nil
  | cons t T ih => exact .cons (h t (List.mem_cons_self ..)) (ih fun u hu => h u (List.mem_cons_of_mem _ hu))
theorem tail_ok {a kS : Addr} {e1 : Nat} {H0 : Hp} {vs kv : List Value} {xs ks : List V} {l : List α} {k0 : V → Int × Int} {A : Around} {st : SortSt} {P : PySem.Fin → Shared → Prop} {E' : Value → Shared → Prop}
    (I : Inv X pins σ H s) (e0 : Ex H0 H) (na : H0 a = none) (nk : H0 kS = none) (hka : kS ≠ a) (ha : H a = some (emp a e1)) (hkS : H kS = some (.lst ks)) (hk0 : ∀ v x, PrV H v x → k0 v = x)
    (rx : Vals xs vs) (rl : P2 (R H) xs l) (hl : l.length ≤ 1000) (pk : P2 (PrV H) ks (l.map κ)) (rk : Vals ks kv)
    (hs : SrtO.Srtd (SrtO.lt2 fun v u => SrtO.lexB (k0 (backV v)) (k0 (backV u))) (arrOf st).toList) (hp : (arrOf st).toList.Perm (kv.zip vs)) (hf : failedOf st = none)
    (h : ∀ H' s' ys m, Inv X pins σ H' s' → Ex H0 H' → H' a = some (.lst ys) → P2 (R H') ys m → m.Pairwise (fun a b => Pk.Lx (κ a) (κ b)) → m.Perm l → P (.done (.ret .none)) s') :
    wpAny (model X.prog X.w) A (ksk_tail a false e1 (.ref kS) st) P E' s := by
  obtain ⟨T, t1, t2, t3⟩ := join_up rl rx (key_pairs I.hok hk0 pk rk)
  obtain ⟨T', u1, u2⟩ := perm_up (fun t : Value × Value × V × α => (t.1, t.2.1)) hp T t1
  have t3' : ∀ t ∈ T', k0 (backV t.1) = κ t.2.2.2 ∧ RelV t.2.2.1 t.2.1 ∧ R H t.2.2.1 t.2.2.2 := fun t ht => by
    obtain ⟨z1, z2⟩ := t3 t (u1.mem_iff.mp ht)
    exact ⟨z1.1, z2⟩
  have hm : (T'.map fun t => t.2.2.2).Perm l := by
    rw [← t2]
    exact u1.map _
  have ls : (T'.map fun t => t.2.2.1).length ≤ 1000 := by rw [List.length_map, ← List.length_map (f := fun t : Value × Value × V × α => t.2.2.2), hm.length_eq]; exact hl
  have es : (arrOf st).map (·.2) = (T'.map fun t => t.2.1).toArray := by
    apply Array.ext'
    rw [Array.toList_map, ← u2, List.map_map]
    rfl
  obtain ⟨_, its, ni, ri, hg⟩ := I.hok kS _ hkS
  have lk : its.length ≤ 1000 := by rw [← ri.length, pk.len, List.length_map]; exact hl
  obtain ⟨c1, hc1⟩ : ∃ c1, (s.heap.update kS (Obj.mapSeq fun _ => (#[] : Array Value))).get? kS = some (seqObj "list" (#[] : Array Value) c1) := ⟨_, get?_update_seq hg fun _ => #[]⟩
  have s1 := Heap.SameBut.update s.heap kS (Obj.mapSeq fun _ => (#[] : Array Value))
  have I1 : Inv X pins σ (upd H kS (.lst [])) { s with heap := s.heap.update kS (Obj.mapSeq fun _ => (#[] : Array Value)) } :=
    I.write (e := kS) (t' := s.toks) (by rw [hkS]; trivial) (.inl rfl) (fun b u hb hu => (s1.2 b hb).trans hu) ⟨_, hc1⟩ ⟨Nat.zero_le _, [], c1, .nil, hc1⟩
  have ha1 : upd H kS (.lst []) a = some (emp a e1) := by rw [upd_ne hka.symm]; exact ha
  have ga := emp_get I1 ha1
  unfold ksk_tail
  try dsimp only
  refine wpAny_bind (listUpdate_at hg rfl ?_ (by rw [List.size_toArray, sizeLine_eq]; omega) (Nat.zero_le _))
  refine wpAny_bind (wpAny_letGo ?_)
  refine wpAny_bind (seqEpoch_at ga rfl ?_)
  simp only [bne_self_eq_false, Bool.false_eq_true, if_false]
  refine wpAny_bind (listUpdate_at ga rfl ?_ (Nat.zero_le _) (by rw [es, List.size_toArray, List.length_map, ← List.length_map (f := fun t : Value × Value × V × α => t.2.2.1), sizeLine_eq]; omega))
  rw [hf]
  obtain ⟨c2, hc2⟩ : ∃ c2, ((s.heap.update kS (Obj.mapSeq fun _ => (#[] : Array Value))).update a (Obj.mapSeq fun _ => (arrOf st).map (·.2))).get? a = some (seqObj "list" ((arrOf st).map (·.2)) c2) := ⟨_, get?_update_seq ga fun _ => (arrOf st).map (·.2)⟩
  have s2 := Heap.SameBut.update (s.heap.update kS (Obj.mapSeq fun _ => (#[] : Array Value))) a (Obj.mapSeq fun _ => (arrOf st).map (·.2))
  have tk : Tk H (upd (upd H kS (.lst [])) a (.lst (T'.map fun t => t.2.2.1))) := fun p xs hp => by
    have n1 : p ≠ kS := fun z => by rw [z, hkS] at hp; cases hp
    have n2 : p ≠ a := fun z => by rw [z, ha] at hp; cases hp
    rw [upd_ne n2, upd_ne n1]
    exact hp
  refine wpAny_pure (h (upd (upd H kS (.lst [])) a (.lst (T'.map fun t => t.2.2.1))) _ (T'.map fun t => t.2.2.1) (T'.map fun t => t.2.2.2) (I1.write (e := a) (t' := s.toks) (by rw [ha1]; trivial) (.inl rfl) (fun b u hb hu => (s2.2 b hb).trans hu) ⟨_, hc2⟩
    ⟨by rw [sizeLine_eq]; omega, T'.map fun t => t.2.1, c2, vals_map fun t ht => (t3' t ht).2.1, by rw [← es]; exact hc2⟩) (Same.mut (Same.mut e0 nk) na) upd_same (p2_imm tk (p2_map fun t ht => (t3' t ht).2.2)) ?_ hm)
  rw [← u2] at hs
  refine List.pairwise_map.mpr ((List.pairwise_map.mp hs).imp_of_mem fun {p q} hp hq z => ?_)
  have z1 := (t3' p hp).1
  have z2 := (t3' q hq).1
  have z3 : SrtO.lexB (k0 (backV q.1)) (k0 (backV p.1)) = false := z
  rw [z1, z2] at z3
  have := SrtO.lexB_no.mp z3
  unfold Pk.Lx
  omega
theorem pairs_of {h : Heap} {k0 : V → Int × Int} : ∀ {kv : List Value} {l : List α}, P2 (fun (key : Value) (a : α) => k0 (backV key) = κ a ∧ Srt.IsPair h key (κ a).1 (κ a).2) kv l → ∀ v ∈ kv, Srt.IsPair h v (k0 (backV v)).1 (k0 (backV v)).2 := by
  intro kv l p
  induction p with
  | nil => intro v hv; cases hv
  | cons p t ih =>
    intro v hv
    rcases List.mem_cons.mp hv with rfl | hv
    · rw [p.1]; exact p.2
    · exact ih v hv
theorem end_ok {a kS : Addr} {e1 : Nat} {H0 : Hp} {vs kv : List Value} {xs ks : List V} {l : List α} {A : Around} {P : PySem.Fin → Shared → Prop} {E' : Value → Shared → Prop}
    (I : Inv X pins σ H s) (e0 : Ex H0 H) (na : H0 a = none) (nk : H0 kS = none) (hka : kS ≠ a) (ha : H a = some (emp a e1)) (hkS : H kS = some (.lst ks))
    (rx : Vals xs vs) (rl : P2 (R H) xs l) (hl : l.length ≤ 1000) (pk : P2 (PrV H) ks (l.map κ)) (rk : Vals ks kv)
    (h : ∀ H' s' ys m, Inv X pins σ H' s' → Ex H0 H' → H' a = some (.lst ys) → P2 (R H') ys m → m.Pairwise (fun a b => Pk.Lx (κ a) (κ b)) → m.Perm l → P (.done (.ret .none)) s') :
    wpAny (model X.prog X.w) A (ksk_end a false vs.toArray e1 (.ref kS) kv.toArray) P E' s := by
  obtain ⟨k0, hk0⟩ := pk_key H
  have hkv := key_pairs I.hok hk0 pk rk
  have hpr := pairs_of hkv
  have lx : vs.length = l.length := by rw [← rx.length, rl.len]
  have lk : kv.length = l.length := by rw [← rk.length, pk.len, List.length_map]
  have ez : (kv.toArray.zip vs.toArray).toList = kv.zip vs := by rw [ksk_zip]
  unfold ksk_end
  try dsimp only
  simp only [Bool.false_eq_true, if_false]
  by_cases h2 : vs.toArray.size < 2
  · rw [if_pos h2, if_pos h2]
    refine wpAny_bind (wpAny_pure ?_)
    rw [StateT.run_pure]
    refine wpAny_bind (wpAny_pure ?_)
    try dsimp only
    refine tail_ok (st := SortSt.mk' general' (kv.toArray.zip vs.toArray) #[] 7 none) I e0 na nk hka ha hkS hk0 rx rl hl pk rk ?_ (by rw [show (arrOf (SortSt.mk' general' (kv.toArray.zip vs.toArray) #[] 7 none)).toList = kv.zip vs from ez]) rfl h
    rw [show (arrOf (SortSt.mk' general' (kv.toArray.zip vs.toArray) #[] 7 none)).toList = kv.zip vs from ez]
    rw [List.size_toArray] at h2
    have hz : (kv.zip vs).length < 2 := by rw [List.length_zip]; omega
    match kv.zip vs, hz with
    | [], _ => exact List.Pairwise.nil
    | [v], _ => exact List.pairwise_singleton _ _
    | _ :: _ :: l, h => exact absurd h (by rw [List.length_cons, List.length_cons]; omega)
  · rw [if_neg h2, if_neg h2]
    rw [List.size_toArray] at h2
    obtain ⟨fs, h1, h3, h4⟩ := Srt.firsts_of fun v hv => ⟨_, _, hpr v hv⟩
    refine wpAny_bind (PySem.W.kat_kind (T := .type "int") h1 (by omega) (fun f hm => ?_) (by rfl) ?_)
    · obtain ⟨x, t, rfl⟩ := h4 f hm
      exact PySem.W.Looks.now
    · have e : (Value.type "int" != Value.type "tuple") = true := by first | decide +kernel | rfl | decide
      rw [e]
      have hall : SrtO.AllL (fun p : Keyed => p.1 ∈ kv) (arrOf (SortSt.mk' (tuples' true) (kv.toArray.zip vs.toArray) #[] 7 none)).toList := fun p hm => by
        rw [show (arrOf (SortSt.mk' (tuples' true) (kv.toArray.zip vs.toArray) #[] 7 none)).toList = kv.zip vs from ez] at hm
        exact (List.of_mem_zip hm).1
      refine wpAny_bind (wpAny_mono (SrtO.wpS_sortO (st0 := SortSt.mk' (tuples' true) (kv.toArray.zip vs.toArray) #[] 7 none)
        (Q := fun _ st' => SrtO.Srtd (SrtO.lt2 fun v u => SrtO.lexB (k0 (backV v)) (k0 (backV u))) (arrOf st').toList ∧ (arrOf st').toList.Perm (kv.zip vs) ∧ failedOf st' = none) (SrtO.swo2 (SrtO.swo_lex fun v => k0 (backV v))) (SrtO.pair_cmp (k := fun v => k0 (backV v)) hpr) rfl hall rfl rfl
        fun st' a1 a2 a3 => ⟨a1, by rw [← ez]; exact a2.perm, a3⟩) ?_ fun _ _ e => e)
      rintro ⟨⟨⟩, st'⟩ s' ⟨rfl, hp1, hp2, hf⟩
      try dsimp only
      exact tail_ok I e0 na nk hka ha hkS hk0 rx rl hl pk rk hp1 hp2 hf h
/-- sorted(a tuple, key=a def) -/
def rSortK (K : PySem.W.Frag) (sp : Sp) (E : XK) (f : Addr) (R : Hp → V → α → Prop) (κ : α → Iv) : List V → List V → Hp → VK → Prop := fun vs zs H Q => ∃ (t : Addr) (xs : List V) (l : List α), vs = [V.ref t] ∧ zs = [V.ref f] ∧ SqT K H t xs ∧ P2 (R H) xs l ∧ l.length ≤ 1000 ∧ KeyOk sp E R κ H l ∧
  ∀ ys m d H', Ex H H' → P2 (R H') ys m → m.Pairwise (fun a b => Pk.Lx (κ a) (κ b)) → m.Perm l → H d = none → H' d = some (.lst ys) → Q (.ref d) H'
theorem cr_sortK (F : FnOk X.prog X.w X.K X.mg X.base CX0 k f fd ps sp) (hb : Binds X.K fd ps []) (hr : Room (k + 2) X.A) : CallRK X (.builtin "sorted") [Str.ofString "key"] (rSortK X.K sp E f R κ) := by
  intro pins s σ H vs zs us ws Q I r rz h
  obtain ⟨t, xs, l, rfl, rfl, ht, rl, hl, hk, q⟩ := h
  obtain rfl := Vals.ref1 r
  obtain ⟨w1, rfl, e1⟩ := vals1 rz
  obtain rfl : w1 = Value.ref f := e1
  obtain ⟨vs, rx, ⟨o, ho, hc, n, hd⟩, hz⟩ := I.tuple ht
  have hv : vs.length ≤ 1000 := by rw [← rx.length, rl.len]; exact hl
  refine call_function_entry_kw kind_sorted plain_sorted entry_sorted (ksk_s1 _ _) ?_
  unfold Builtin.«sorted»
  refine wpAny_bind (m := checkCount "sorted" 1 1 _) (wpAny_pure ?_)
  refine wpAny_bind (wpAny_collect_seq t (.inr rfl) ho hc hd (fun h1 k1 => ?_) (by rw [List.size_toArray, sizeLine_eq]; omega))
  have I1 : Inv X pins σ H { s with heap := h1 } := I.kept (t' := s.toks) k1
  refine wpAny_bind (wpAny_newList ?_ (by rw [sizeLine_eq]; show vs.toArray.toList.length ≤ _; simp; omega))
  have ev : vs.toArray.toList = vs := by simp
  rw [ev]
  have hoL : (h1.push (seqObj "list" vs.toArray 0)).get? h1.objs.size = some (seqObj "list" vs.toArray 0) := Heap.get?_push_size _ rfl
  refine wpAny_bind (wpAny_holding (wpAny_call_entry_kw slot_list_sort ⟨_, hoL, rfl⟩ entry_list_sort ?body (ksk_l1 _ _)))
  case body =>
    show wpAny (model X.prog X.w) X.A.in1.in1 (Builtin.«list.sort» ⟨[.ref h1.objs.size], [(Str.ofString "key", .ref f)]⟩) _ _ _
    rw [ksk_t1]
    have na : H h1.objs.size = none := I1.hok.fresh (Nat.le_refl _)
    have hv2 : vs.toArray.size ≤ sizeLine := by rw [List.size_toArray, sizeLine_eq]; omega
    unfold ksk_tree
    refine wpAny_bind (listItems_at hoL rfl ?_)
    refine wpAny_bind (listUpdate_at hoL rfl ?_ hv2 (Nat.zero_le _))
    obtain ⟨e2, ho2⟩ : ∃ e2, ((h1.push (seqObj "list" vs.toArray 0)).update h1.objs.size (Obj.mapSeq fun _ => (#[] : Array Value))).get? h1.objs.size = some (seqObj "list" #[] e2) := ⟨_, get?_update_seq hoL fun _ => #[]⟩
    refine wpAny_bind (seqEpoch_at ho2 rfl ?_)
    refine wpAny_bind (wpAny_newTuple ?_ hv2)
    refine wpAny_bind (wpAny_newList ?_ (Nat.zero_le _))
    refine wpAny_holding ?_
    have sb := Heap.SameBut.update (h1.push (seqObj "list" vs.toArray 0)) h1.objs.size (Obj.mapSeq fun _ => (#[] : Array Value))
    let h3 := ((h1.push (seqObj "list" vs.toArray 0)).update h1.objs.size (Obj.mapSeq fun _ => (#[] : Array Value))).push { cls := .type "tuple", data := .seq vs.toArray.toList.toArray }
    have ho3 : h3.get? h1.objs.size = some (seqObj "list" #[] e2) := Heap.get?_push_of_some _ ho2
    have keep3 : ∀ b o, h1.get? b = some o → h3.get? b = some o := fun b o q =>
      Heap.get?_push_of_some _ ((sb.2 b (Nat.ne_of_lt (Heap.lt_size q))).trans (Heap.get?_push_of_some _ q))
    have sz3 : h3.objs.size = h1.objs.size + 2 := by
      show (Heap.push _ _).objs.size = _
      rw [size_push', Heap.size_update, size_push']
    have I3 : Inv X pins σ (upd H h1.objs.size (emp h1.objs.size e2)) { s with heap := h3 } := I1.laid (t' := s.toks) keep3 (Nat.le_refl _) (emp_ok ho3)
    have nk : H h3.objs.size = none := I1.hok.fresh (by show h1.objs.size ≤ _; omega)
    have I4 : Inv X pins σ (upd (upd H h1.objs.size (emp h1.objs.size e2)) h3.objs.size (.lst [])) { s with heap := h3.push { cls := .type "list", data := .seq ([] : List Value).toArray } } :=
      I3.laid (t' := s.toks) (fun b u e => Heap.get?_push_of_some _ e) (Nat.le_refl _) ⟨Nat.zero_le _, [], 0, .nil, Heap.get?_push_size _ rfl⟩
    have hka : h3.objs.size ≠ h1.objs.size := by omega
    refine rest_ok (H0 := H) (a := h1.objs.size) (kS := h3.objs.size) F hb hr hk rx rl hl I4 (Same.mut (Same.mut (Same.refl H) na) nk) na nk hka (by rw [upd_ne hka.symm]; exact upd_same) upd_same fun H' s' ks kv n I' e' ha' hk' p' rk _ => ?_
    refine end_ok I' e' na nk hka ha' hk' rx (p2_imm (.ex e') rl) hl p' rk fun H2 s2 ys m I2 e2' ha2 p2 hpw hpm => ?_
    exact ⟨_, rfl, wpAny_pure ⟨_, rfl, .ref _, H2, I2, rfl, q ys m _ H2 e2' p2 hpw hpm na ha2⟩⟩
end
end Sy

/-! sorted(list of triples: two numbers, no two alike, and a pair) -/
namespace Sz
open PySem PySem.Spec PyProof.Rows L2 Dk
def TrV (H : Hp) (v : V) (x : Iv × Iv) : Prop := ∃ p q : Addr, v = .ref p ∧ H p = some (.tup [.int x.1.1, .int x.1.2, .ref q]) ∧ PrV H (.ref q) x.2
instance : Imm TrV := ⟨fun t h => by
  obtain ⟨p, q, h1, h2, h3⟩ := h
  exact ⟨p, q, h1, t _ _ h2, imm t h3⟩⟩
def IsTri (h : Heap) (v : Value) (x y : Int) (z : Value) : Prop := ∃ a o t u n, v = .ref a ∧ h.get? a = some o ∧ o.cls = .type "tuple" ∧ o.data = .seq #[.int x t, .int y u, z] n
theorem IsTri.keeps {h h' : Heap} {v z : Value} {x y : Int} (p : IsTri h v x y z) (k : ∀ b o, h.get? b = some o → o.cls = .type "tuple" → h'.get? b = some o) : IsTri h' v x y z := by
  obtain ⟨a, o, t, u, n, e, ho, hc, hd⟩ := p
  exact ⟨a, o, t, u, n, e, k _ _ ho hc, hc, hd⟩
theorem firsts_of {h : Heap} : ∀ {vs : List Value}, (∀ v ∈ vs, ∃ x y z, IsTri h v x y z) → ∃ fs : List Value, PySem.W.KatTups h vs fs ∧ fs.length = vs.length ∧ ∀ f ∈ fs, ∃ x t, f = Value.int x t
  | [], _ => ⟨[], PySem.W.KatTups.nil, rfl, fun _ hm => by simp at hm⟩
  | v :: vs, hp => by
    obtain ⟨fs, h1, h2, h3⟩ := firsts_of (vs := vs) fun v' hm => hp v' (List.mem_cons_of_mem _ hm)
    obtain ⟨x, y, z, a, o, t, u, n, e, ho, hc, hd⟩ := hp v (List.mem_cons_self ..)
    subst e
    refine ⟨.int x t :: fs, PySem.W.KatTups.cons ho hc hd rfl h1, by rw [List.length_cons, List.length_cons, h2], fun f hm => ?_⟩
    rcases List.mem_cons.mp hm with rfl | hm
    · exact ⟨x, t, rfl⟩
    · exact h3 f hm
section
variable {prog : Program} {w : World} {A : Around} {E : Value → Shared → Prop} {s : Shared}
theorem tri_cmp {vs : List Value} {k : Value → Int × Int} (hp : ∀ v ∈ vs, ∃ z, IsTri s.heap v (k v).1 (k v).2 z) (inj : ∀ v ∈ vs, ∀ u ∈ vs, k v = k u → v = u) :
    SrtO.Cmp prog w A s (tuples' true) (fun p => p.1 ∈ vs) (SrtO.lt2 fun v u => SrtO.lexB (k v) (k u)) := by
  intro p q hm hm'
  obtain ⟨z, h1⟩ := hp _ hm
  obtain ⟨z', h2⟩ := hp _ hm'
  have hin := inj _ hm _ hm'
  show wpAny (model prog w) A (keyLt' (tuples' true) p.1 q.1) (fun r s' => s' = s ∧ r = SrtO.lexB (k p.1) (k q.1)) (fun _ _ => False) s
  unfold SrtO.lexB
  have hin' : (k p.1).1 = (k q.1).1 → (k p.1).2 = (k q.1).2 → p.1 = q.1 := fun a b => hin (Prod.ext a b)
  generalize (k p.1).1 = x at h1 hin' ⊢
  generalize (k p.1).2 = y at h1 hin' ⊢
  generalize (k q.1).1 = x' at h2 hin' ⊢
  generalize (k q.1).2 = y' at h2 hin' ⊢
  obtain ⟨a, o, t, u, n, e, ho, hc, hd⟩ := h1
  obtain ⟨a', o', t', u', n', e', ho', hc', hd'⟩ := h2
  rw [e, e'] at hin'
  rw [e, e']
  refine PySem.W.kat_lt ho hd ho' hd' ?_
  show PySem.W.KatLex prog w A true (decide (3 < 3)) _ [(.int x t, .int x' t'), (.int y u, .int y' u'), (z, z')] 0 s
  refine PySem.W.kat_cons (SeqAt.EqAt.int_int x t x' t' prog w _ _ ?_)
  refine PySem.W.kat_go (fun e1 => ?_) (fun e1 => ?_)
  · have ex : x = x' := by simpa using e1
    refine PySem.W.kat_yes (PySem.W.kat_cons (SeqAt.EqAt.int_int y u y' u' prog w _ _ ?_))
    refine PySem.W.kat_go (fun e2 => ?_) (fun e2 => ?_)
    · have ey : y = y' := by simpa using e2
      have e3 : (if x = x' then decide (y < y') else decide (x < x')) = false := by
        rw [if_pos ex, ey]
        exact decide_eq_false (Int.lt_irrefl _)
      have ea : a = a' := by have := hin' ex ey; injection this
      subst ea
      rw [ho] at ho'
      cases ho'
      rw [hd] at hd'
      injection hd' with d1 d2
      have dz : z = z' := by
        have := congrArg (fun xs : Array Value => xs[2]?) d1
        simpa using this
      subst dz
      refine PySem.W.kat_yes (PySem.W.kat_cons (SeqAt.EqAt.same z prog w _ _ ?_))
      refine PySem.W.kat_go (fun _ => ?_) (fun e3 => by cases e3)
      exact PySem.W.kat_yes (PySem.W.kat_nil ⟨rfl, e3.symm⟩)
    · have e3 : (if x = x' then decide (y < y') else decide (x < x')) = decide (y < y') := if_pos ex
      refine PySem.W.kat_no (PySem.W.kat_one _ _ (PyProof.Rows.lt_int ?_))
      exact (show s = s ∧ decide (y < y') = (if x = x' then decide (y < y') else decide (x < x')) from ⟨rfl, e3.symm⟩)
  · have ex : ¬ x = x' := by simpa using e1
    have e3 : (if x = x' then decide (y < y') else decide (x < x')) = decide (x < x') := if_neg ex
    exact PySem.W.kat_no (oneLt_int ⟨rfl, e3.symm⟩)
theorem tri_sortable {a : Addr} {vs : List Value} {k : Value → Int × Int} (h0 : 0 < vs.length) (hp : ∀ v ∈ vs, ∃ z, IsTri s.heap v (k v).1 (k v).2 z) (inj : ∀ v ∈ vs, ∀ u ∈ vs, k v = k u → v = u) (ha : ∀ o, s.heap.get? a = some o → o.cls ≠ .type "tuple") :
    SrtO.SortableO prog w A s a vs fun v u => SrtO.lexB (k v) (k u) := by
  intro h' keep
  have hp' : ∀ v ∈ vs, ∃ z, IsTri h' v (k v).1 (k v).2 z := fun v hm => (hp v hm).imp fun _ g => g.keeps fun b o e c => keep b o (fun z => by subst z; exact ha o e c) e
  obtain ⟨fs, h1, h2, h3⟩ := firsts_of fun v hm => ⟨_, _, hp' v hm⟩
  refine ⟨tuples' true, fun Q E hq => ?_, tri_cmp hp' inj⟩
  refine PySem.W.kat_kind (T := .type "int") h1 (by omega) (fun f hm => ?_) (by rfl) ?_
  · obtain ⟨x, t, rfl⟩ := h3 f hm
    exact PySem.W.Looks.now
  · have e : (Value.type "int" != Value.type "tuple") = true := by first | decide +kernel | rfl | decide
    rw [e]
    exact hq
end
theorem tr_key (H : Hp) : ∃ k : V → Int × Int, ∀ v x, TrV H v x → k v = x.1 := by
  refine ⟨fun v => match v with
    | .ref p => (match H p with
      | some (.tup [.int a, .int b, _]) => (a, b)
      | _ => (0, 0))
    | _ => (0, 0), fun v x h => ?_⟩
  obtain ⟨p, q, rfl, hp, _⟩ := h
  show (match H p with
      | some (.tup [.int a, .int b, _]) => (a, b)
      | _ => (0, 0)) = x.1
  rw [hp]
theorem p2_true {α β : Type} : ∀ {xs : List α} {ys : List β}, xs.length = ys.length → P2 (fun _ _ => True) xs ys
  | [], [], _ => .nil
  | _ :: xs, _ :: ys, h => .cons trivial (p2_true (Nat.succ.inj h))
def rSortT (K : PySem.W.Frag) : List V → Hp → VK → Prop := fun vs H Q => ∃ (a : Addr) (xs : List V) (l : List (Iv × Iv)), vs = [V.ref a] ∧ SqL K H a xs ∧ P2 (TrV H) xs l ∧ (l.map Prod.fst).Nodup ∧
  ∀ ys m d, P2 (TrV H) ys m → m.Pairwise (fun a b => Pk.Lx a.1 b.1) → m.Perm l → H d = none → Q (.ref d) (upd H d (.lst ys))
theorem cr_sortT {X : Cx} : CallR X (.builtin "sorted") (rSortT X.K) := by
  intro pins s σ H vs us Q I r h
  obtain ⟨a, xs, l, rfl, hs, pl, nd, q⟩ := h
  obtain ⟨its, rv, hl, hz⟩ := I.list hs
  obtain rfl := Vals.ref1 r
  obtain ⟨k0, hk0⟩ := tr_key H
  -- each item, its value and its data
  have tri : ∀ x y v, TrV H x y → RelV x v → k0 (backV v) = y.1 ∧ ∃ z, IsTri s.heap v y.1.1 y.1.2 z := fun x y v hx hv => by
    have e := hk0 _ _ hx
    obtain ⟨p, t, rfl, hp, _⟩ := hx
    cases hv
    refine ⟨e, ?_⟩
    obtain ⟨_, its2, r2, o, ho, hc, n, hd⟩ := I.hok _ _ hp
    obtain ⟨u1, us1, rfl, ri, r3⟩ : ∃ u1 us1, its2 = u1 :: us1 ∧ RelV (.int y.1.1) u1 ∧ Vals [.int y.1.2, .ref t] us1 := by
      cases r2 with | cons r r' => exact ⟨_, _, rfl, r, r'⟩
    obtain ⟨u2, u3, rfl, rj, rt⟩ := vals2 r3
    obtain ⟨t1, rfl⟩ := ri
    obtain ⟨t2, rfl⟩ := rj
    exact ⟨u3, p, o, t1, t2, n, rfl, ho, hc, hd⟩
  have ix : ∀ {v : Value}, v ∈ its → ∃ i x y, its[i]? = some v ∧ xs[i]? = some x ∧ l[i]? = some y ∧ RelV x v ∧ TrV H x y := fun {v} hv => by
    obtain ⟨i, hi⟩ := List.mem_iff_getElem?.mp hv
    obtain ⟨x, hx, rx⟩ := Sy.vals_get rv hi
    obtain ⟨y, hy, ry⟩ := pl.get hx
    exact ⟨i, x, y, hi, hx, hy, rx, ry⟩
  have hp : ∀ v ∈ its, ∃ z, IsTri s.heap v (k0 (backV v)).1 (k0 (backV v)).2 z := fun v hv => by
    obtain ⟨i, x, y, _, _, _, rx, ry⟩ := ix hv
    obtain ⟨e, g⟩ := tri x y v ry rx
    rw [e]
    exact g
  have inj : ∀ v ∈ its, ∀ u ∈ its, k0 (backV v) = k0 (backV u) → v = u := fun v hv u hu e => by
    obtain ⟨i, x, y, hi, _, hy, rx, ry⟩ := ix hv
    obtain ⟨j, x', y', hj, _, hy', rx', ry'⟩ := ix hu
    rw [(tri x y v ry rx).1, (tri x' y' u ry' rx').1] at e
    have il : i < (l.map Prod.fst).length := by rw [List.length_map]; exact (List.getElem?_eq_some_iff.mp hy).1
    have jl : j < (l.map Prod.fst).length := by rw [List.length_map]; exact (List.getElem?_eq_some_iff.mp hy').1
    have ij : i = j := by
      have ee : (l.map Prod.fst)[i] = (l.map Prod.fst)[j] := by
        rw [List.getElem_map, List.getElem_map, (List.getElem?_eq_some_iff.mp hy).2, (List.getElem?_eq_some_iff.mp hy').2]
        exact e
      have pw := List.pairwise_iff_getElem.mp nd
      rcases Nat.lt_trichotomy i j with c | c | c
      · exact absurd ee (pw i j il jl c)
      · exact c
      · exact absurd ee.symm (pw j i jl il c)
    subst ij
    rw [hi] at hj
    exact Option.some.inj hj
  refine SrtO.sorted_ord (SrtO.swo_lex fun v => k0 (backV v)) hl.isList (by rw [← rv.length]; exact hz) (fun h2 h₁ a ha kk => ?_) fun out hs hb => ?_
  · refine tri_sortable (s := { s with heap := h₁ }) (k := fun v => k0 (backV v)) (by omega) (fun v hm => (hp v hm).imp fun _ g => g.keeps fun b o e _ => (kk b o e).2) inj fun o e => ?_
    have e' : some o = some (seqObj "list" its.toArray 0) := e.symm.trans (by simpa using ha)
    cases e'
    intro c
    exact absurd (Value.type.inj c) (by decide)
  · -- the data in the same order
    have hlen : its.length = l.length := by rw [← rv.length, pl.len]
    obtain ⟨T, t1, t2, t3⟩ := Sy.join_up (S := fun (_ : Value) (_ : Iv × Iv) => True) pl rv (kv := its) (p2_true hlen)
    have e1 : T.map (fun t => t.2.1) = its := by
      have := congrArg (List.map Prod.snd) t1
      rw [List.map_map, List.map_snd_zip (Nat.le_refl _)] at this
      exact this
    obtain ⟨T', u1, u2⟩ := Sy.perm_up (fun t : Value × Value × V × (Iv × Iv) => t.2.1) hb.perm T e1
    have t3' : ∀ t ∈ T', RelV t.2.2.1 t.2.1 ∧ TrV H t.2.2.1 t.2.2.2 := fun t ht => (t3 t (u1.mem_iff.mp ht)).2
    have hm : (T'.map fun t => t.2.2.2).Perm l := by
      rw [← t2]
      exact u1.map _
    have ls : (T'.map fun t => t.2.2.1).length ≤ sizeLine := by
      rw [List.length_map, ← List.length_map (f := fun t : Value × Value × V × (Iv × Iv) => t.2.2.2), hm.length_eq, ← pl.len]
      exact hz
    obtain ⟨n, hn⟩ := sortedAll_at s.heap its out.toArray
    have rvs : Vals (T'.map fun t => t.2.2.1) out := by rw [← u2]; exact Sy.vals_map fun t ht => (t3' t ht).1
    refine ⟨.ref _, upd H (s.heap.objs.size + 1) (.lst (T'.map fun t => t.2.2.1)), I.laid (t' := s.toks) (fun _ _ => sortedAll_old) (Nat.le_succ _) ⟨ls, out, n, rvs, hn⟩, rfl, q _ (T'.map fun t => t.2.2.2) _ (Sy.p2_map fun t ht => (t3' t ht).2) ?_ hm (I.hok.fresh (Nat.le_succ _))⟩
    rw [← u2] at hs
    refine List.pairwise_map.mpr ((List.pairwise_map.mp hs).imp_of_mem fun {p q} hp hq z => ?_)
    have z1 := (tri _ _ _ (t3' p hp).2 (t3' p hp).1).1
    have z2 := (tri _ _ _ (t3' q hq).2 (t3' q hq).1).1
    have z3 : SrtO.lexB (k0 (backV q.2.1)) (k0 (backV p.2.1)) = false := z
    rw [z1, z2] at z3
    have := SrtO.lexB_no.mp z3
    unfold Pk.Lx
    omega
/-- sorted(a tuple of pairs) -/
def rSortPT (K : PySem.W.Frag) : List V → Hp → VK → Prop := fun vs H Q => ∃ (t : Addr) (xs : List V) (l : List Iv), vs = [V.ref t] ∧ SqT K H t xs ∧ PrL H xs l ∧
  ∀ ys m d, PrL H ys m → m.Pairwise Pk.Lx → m.Perm l → H d = none → Q (.ref d) (upd H d (.lst ys))
theorem cr_sortPT {X : Cx} : CallR X (.builtin "sorted") (rSortPT X.K) := by
  intro pins s σ H vs us Q I r h
  obtain ⟨t, xs, l, rfl, hs, pl, q⟩ := h
  obtain ⟨its, rv, ⟨o, ho, hc, n0, hd⟩, hz⟩ := I.tuple hs
  obtain rfl := Vals.ref1 r
  obtain ⟨k0, hk0⟩ := pk_key H
  have hv : its.length ≤ sizeLine := by rw [← rv.length]; exact hz
  have tri : ∀ x y v, PrV H x y → RelV x v → k0 (backV v) = y ∧ Srt.IsPair s.heap v y.1 y.2 := fun x y v hx hv => by
    have e := hk0 _ _ hx
    obtain ⟨p, rfl, hp⟩ := hx
    cases hv
    refine ⟨e, ?_⟩
    obtain ⟨_, its2, r2, o, ho, hc, n, hd⟩ := I.hok _ _ hp
    obtain ⟨u1, u2, rfl, ri, rj⟩ := vals2 r2
    obtain ⟨t1, rfl⟩ := ri
    obtain ⟨t2, rfl⟩ := rj
    exact ⟨p, o, t1, t2, n, rfl, ho, hc, hd⟩
  have hp : ∀ v ∈ its, Srt.IsPair s.heap v (k0 (backV v)).1 (k0 (backV v)).2 := fun v hv => by
    obtain ⟨i, hi⟩ := List.mem_iff_getElem?.mp hv
    obtain ⟨x, hx, rx⟩ := Sy.vals_get rv hi
    obtain ⟨y, hy, ry⟩ := pl.get hx
    obtain ⟨e, g⟩ := tri x y v ry rx
    rw [e]
    exact g
  refine Calls.call_function_entry kind_sorted plain_sorted entry_sorted (args_sorted1 _) ?_
  unfold Builtin.«sorted»
  refine wpAny_bind (m := checkCount "sorted" 1 1 _) (wpAny_pure ?_)
  refine wpAny_bind (wpAny_collect_seq t (.inr rfl) ho hc hd (fun h1 k1 => ?_) (by rw [List.size_toArray]; exact hv))
  have ev : its.toArray.toList = its := by simp
  refine wpAny_bind (wpAny_newList ?_ (by show its.toArray.toList.length ≤ _; rw [ev]; exact hv))
  rw [ev]
  have hoL : (h1.push (seqObj "list" its.toArray 0)).get? h1.objs.size = some (seqObj "list" its.toArray 0) := Heap.get?_push_size _ rfl
  refine wpAny_bind (wpAny_holding (wpAny_call_entry slot_list_sort ⟨_, hoL, rfl⟩ entry_list_sort (SrtO.list_sort_ord (SrtO.swo_lex fun v => k0 (backV v)) hoL hv (fun h2 => ?_) fun out hs hb => ⟨_, rfl, ?_⟩) (args_list_sort _)))
  · refine SrtO.pairs_sortableO (s := { s with heap := h1.push (seqObj "list" its.toArray 0) }) (k := fun v => k0 (backV v)) (by omega) (fun v hm => (hp v hm).keeps fun b o e _ => Heap.get?_push_of_some _ (k1 b o e)) fun o e => ?_
    have e' : some o = some (seqObj "list" its.toArray 0) := e.symm.trans hoL
    cases e'
    intro c
    exact absurd (Value.type.inj c) (by decide)
  · have hlen : its.length = l.length := by rw [← rv.length, pl.len]
    obtain ⟨T, t1, t2, t3⟩ := Sy.join_up (S := fun (_ : Value) (_ : Iv) => True) pl rv (kv := its) (p2_true hlen)
    have e1 : T.map (fun t => t.2.1) = its := by
      have := congrArg (List.map Prod.snd) t1
      rw [List.map_map, List.map_snd_zip (Nat.le_refl _)] at this
      exact this
    obtain ⟨T', u1, u2⟩ := Sy.perm_up (fun t : Value × Value × V × Iv => t.2.1) hb.perm T e1
    have t3' : ∀ t ∈ T', RelV t.2.2.1 t.2.1 ∧ PrV H t.2.2.1 t.2.2.2 := fun t ht => (t3 t (u1.mem_iff.mp ht)).2
    have hm : (T'.map fun t => t.2.2.2).Perm l := by
      rw [← t2]
      exact u1.map _
    have ls : (T'.map fun t => t.2.2.1).length ≤ sizeLine := by
      rw [List.length_map, ← List.length_map (f := fun t : Value × Value × V × Iv => t.2.2.2), hm.length_eq, ← pl.len]
      exact hz
    obtain ⟨n, hn⟩ := sortedHeap_at (vs := its) (out := out.toArray) hoL
    have rvs : Vals (T'.map fun t => t.2.2.1) out := by rw [← u2]; exact Sy.vals_map fun t ht => (t3' t ht).1
    have keep : ∀ b u, h1.get? b = some u → (sortedHeap (h1.push (seqObj "list" its.toArray 0)) h1.objs.size its out.toArray).get? b = some u := fun b u q => by
      have lt := Heap.lt_size q
      rw [sortedHeap_old (Nat.ne_of_lt lt) (by rw [size_push']; exact Nat.lt_succ_of_lt lt)]
      exact Heap.get?_push_of_some _ q
    have I1 : Inv X pins σ H { s with heap := h1 } := I.kept (t' := s.toks) k1
    refine wpAny_pure ⟨_, rfl, .ref _, upd H h1.objs.size (.lst (T'.map fun t => t.2.2.1)), I1.laid (t' := s.toks) keep (Nat.le_refl _) ⟨ls, out, n, rvs, hn⟩, rfl, q _ (T'.map fun t => t.2.2.2) _ (Sy.p2_map fun t ht => (t3' t ht).2) ?_ hm (I1.hok.fresh (Nat.le_refl _))⟩
    rw [← u2] at hs
    refine List.pairwise_map.mpr ((List.pairwise_map.mp hs).imp_of_mem fun {p q} hp hq z => ?_)
    have z1 := (tri _ _ _ (t3' p hp).2 (t3' p hp).1).1
    have z2 := (tri _ _ _ (t3' q hq).2 (t3' q hq).1).1
    have z3 : SrtO.lexB (k0 (backV q.2.1)) (k0 (backV p.2.1)) = false := z
    rw [z1, z2] at z3
    have := SrtO.lexB_no.mp z3
    unfold Pk.Lx
    omega
end Sz

/-! tuple[::-1] -/
namespace Dk
open PySem PySem.Spec PyProof.Rows L2 PySem.SeqAt PySem.W HT
section
variable {prog : Program} {w : World} {A : Around} {E : Value → Shared → Prop} {s : Shared}
theorem places_rev (n : Nat) : Builtin.Slice.slicePlaces ((n : Int) - 1) (-1) (-1) = n := by
  unfold Builtin.Slice.slicePlaces
  rw [if_neg (by decide)]
  by_cases h : (n : Int) - 1 > -1
  · rw [if_pos h]
    have : ((n : Int) - 1 - -1 - 1) / - -1 + 1 = (n : Int) := by
      rw [Int.neg_neg, Int.ediv_one]
      omega
    rw [this]
    rfl
  · rw [if_neg h]
    have : n = 0 := by omega
    rw [this]
    rfl
theorem sliceApplied_rev {sl : Addr} {vk : Value} {n : Nat} {Q : Int × Int × Nat → Shared → Prop} (hs : s.heap.IsSliceOf sl .none .none vk) (pk : IsPart vk (some (-1)))
    (h : Q ((n : Int) - 1, -1, n) s) : wpAny (model prog w) A (Builtin.Slice.sliceApplied (.ref sl) (pure (n : Int))) Q E s := by
  obtain ⟨os, hos, hcs, hds⟩ := id hs
  unfold Builtin.Slice.sliceApplied Builtin.Slice.sliceFields
  refine wpAny_bind (wpAny_bind (wpAny_field hos hds (x := .none) rfl (wpAny_bind (wpAny_field hos hds (x := .none) rfl (wpAny_bind (wpAny_field hos hds (x := vk) rfl (wpAny_pure ?_)))))))
  refine wpAny_bind (slicePart_ pk ?_)
  show wpAny _ _ (if ((-1 : Int) == 0) = true then _ else _) _ _ s
  rw [if_neg (by decide)]
  refine wpAny_bind (slicePart_ .none (wpAny_bind (slicePart_ .none (wpAny_bind (wpAny_pure ?_)))))
  show wpAny _ _ (pure ((n : Int) - 1, (-1 : Int), Builtin.Slice.slicePlaces ((n : Int) - 1) (-1) (-1))) _ _ s
  rw [places_rev]
  exact wpAny_pure h
theorem pick_rev (xs : Array Value) : ((List.range xs.size).filterMap fun (m : Nat) => xs[(((xs.size : Nat) : Int) - 1 + (m : Int) * -1).toNat]?).toArray = xs.toList.reverse.toArray := by
  have e : (fun (m : Nat) => xs[(((xs.size : Nat) : Int) - 1 + (m : Int) * -1).toNat]?) = fun m => xs[xs.size - 1 - m]? := by
    funext m
    have : (((xs.size : Nat) : Int) - 1 + (m : Int) * -1).toNat = xs.size - 1 - m := by omega
    rw [this]
  rw [e]
  congr 1
  have h1 : ((List.range xs.size).map (fun k => xs.size - 1 - k)).filterMap (xs[·]?) = xs.toList.reverse := by
    rw [krv_range, List.filterMap_reverse]
    congr 1
    exact krv_all xs
  rw [List.filterMap_map] at h1
  exact h1
theorem getItem_tuple_rev {t sl : Addr} {items : Array Value} {vk : Value} {Q : Value → Shared → Prop} (ht : IsTup s.heap t items) (hs : s.heap.IsSliceOf sl .none .none vk) (pk : IsPart vk (some (-1)))
    (h : Q (.ref s.heap.objs.size) { s with heap := s.heap.push { cls := .type "tuple", data := .seq items.toList.reverse.toArray } })
    (hsz : items.size ≤ sizeLine) : wpAny (model prog w) A (getItem (.ref t) (.ref sl)) Q E s := by
  have htake : sizeOk (.seq items.toList.reverse.toArray) := by
    show items.toList.reverse.toArray.size ≤ sizeLine
    rw [List.size_toArray, List.length_reverse, Array.length_toList]
    exact hsz
  obtain ⟨os, hos, hcs, hds⟩ := id hs
  have hTs : s.TypeIs (.ref sl) "slice" := ⟨os, hos, hcs⟩
  unfold getItem
  try with_reducible refine wpAny_holding ?_
  first | refine wpAny_bind (wpAny_pure ?_) | skip
  refine wpAny_bind (wpAny_sequenceKey ht.typeIs (by decide) ?_)
  refine wpAny_bind (wpAny_callSpecial?_slot (name := Str.ofString "__getitem__") ht.typeIs PyProof.Rows.slot_tuple_getitem
    (wpAny_call_entry PyProof.Rows.slot_tuple_getitem ht.typeIs entry_tuple_getitem ?_ (args_tuple_getitem _ _)))
  show wpAny _ _ (Builtin.Tuple.tupleItemsOf (.ref t) >>= _) _ _ s
  refine wpAny_bind (tupleItemsOf_ ht ?_)
  refine wpAny_bind (wpAny_typeOf hTs ?_)
  rw [if_pos (by decide)]
  refine wpAny_bind (sliceApplied_rev hs pk ?_)
  have hno : ¬ ((((items.size : Nat) : Int) - 1 == 0 && (-1 : Int) == 1 && items.size == items.size) = true) := by
    intro q
    rw [Bool.and_eq_true, Bool.and_eq_true] at q
    exact absurd q.1.2 (by decide)
  show wpAny _ _ (if (((items.size : Nat) : Int) - 1 == 0 && (-1 : Int) == 1 && items.size == items.size) = true then _ else _) _ _ s
  rw [if_neg hno, pick_rev]
  first
    | exact wpAny_bind (m := Builtin.Tuple.tupleExact _) (wpAny_newObj_type (wpAny_pure ⟨_, rfl, wpAny_pure h⟩) htake)
    | exact wpAny_bind (m := Builtin.Tuple.tupleExact _) (wpAny_newObj_type (wpAny_bind (wpAny_pure (wpAny_pure ⟨_, rfl, wpAny_pure h⟩))) htake)
    | exact wpAny_bind (wpAny_bind (m := Builtin.Tuple.tupleExact _) (wpAny_newObj_type (wpAny_pure (wpAny_pure ⟨_, rfl, wpAny_pure h⟩)) htake))
    | exact wpAny_bind (wpAny_bind (m := Builtin.Tuple.tupleExact _) (wpAny_newObj_type (wpAny_pure ⟨_, rfl, wpAny_pure h⟩) htake))
end
def tRevT (K : PySem.W.Frag) (te : TE) : TE := fun σ H Q => te σ H fun x H1 => ∃ a xs, x = .ref a ∧ SqT K H1 a xs ∧ ∀ p, H1 p = none → Q (.ref p) (upd H1 p (.tup xs.reverse))
theorem vals_rev : ∀ {xs : List V} {us : List Value}, Vals xs us → Vals xs.reverse us.reverse
  | _, _, .nil => .nil
  | _, _, .cons h t => by
    rw [List.reverse_cons, List.reverse_cons]
    exact (vals_rev t).append (.cons h .nil)
theorem pe_revT {X : Cx} {e st : Expr} {te ts : TE} {pos p2 : Pos} (he : PE X e te) (hst : PE X st ts) (hv : ∀ σ H (Q : VK), Q (.int (-1)) H → ts σ H Q) : PE X (.Subscript e (.Slice none none (some st) p2) pos) (tRevT X.K te) := by
  refine ⟨fun pins s σ H Q I h => ?_⟩
  refine Subscript_ (thn (he.run pins s σ H _ I h) fun v s1 ⟨x, H1, I1, r1, q1⟩ => ?_)
  obtain ⟨a, xs, rfl, hx, q⟩ := q1
  cases r1
  refine wpAny_Slice ?_
  rw [evalPart_none]
  refine wpAny_pure ?_
  refine wpAny_pure ?_
  rw [evalPart_some]
  refine thn (hst.run pins s1 σ H1 _ I1 (hv σ H1 (fun y H2 => y = .int (-1) ∧ H2 = H1) ⟨rfl, rfl⟩)) fun u s2 ⟨y, H2, I2, ry, qy, eH⟩ => ?_
  subst qy eH
  obtain ⟨tk, rfl⟩ := ry
  have I3 : Inv X pins σ H2 { s2 with heap := s2.heap.push { cls := .type "slice", data := .fields #[.none, .none, .int (-1) tk] } } := I2.kept (t' := s2.toks) fun b ob q => Heap.get?_push_of_some _ q
  obtain ⟨its, r, ht, hz⟩ := I3.tuple hx
  have hlen : its.toArray.size = xs.length := by rw [List.size_toArray]; exact r.length.symm
  show wpAny (model X.prog X.w) X.A (subscriptTail e (.Slice none none (some st) p2) (.ref a) (.ref s2.heap.objs.size)) (EP X pins σ Q) X.xe { s2 with heap := s2.heap.push { cls := .type "slice", data := .fields #[.none, .none, .int (-1) tk] } }
  refine tail_any (ops := [.ref a, .ref s2.heap.objs.size]) ht.typeIs PyProof.Rows.slot_tuple_getitem.lookup ?_ (by with_unfolding_all rfl)
  refine getItem_tuple_rev (s := { s2 with heap := s2.heap.push { cls := .type "slice", data := .fields #[.none, .none, .int (-1) tk] } }) ht ⟨_, Heap.get?_push_size _ rfl, rfl, rfl⟩ (.int (-1) tk) ?_ (by rw [hlen]; exact hz)
  refine ⟨.ref _, _, I3.laid (t' := s2.toks) (o := .tup xs.reverse) (fun b ob q => Heap.get?_push_of_some _ q) (Nat.le_refl _) ?_, rfl, q _ (I3.hok.fresh (Nat.le_refl _))⟩
  exact ⟨by rw [List.length_reverse]; exact hz, _, vals_rev r, IsTup.new _ _⟩
theorem r_revT {K : PySem.W.Frag} {te : TE} {σ : L2.St} {H : Hp} {Q : VK} (h : te σ H fun x H1 => ∃ a xs, x = .ref a ∧ SqT K H1 a xs ∧ ∀ p, H1 p = none → Q (.ref p) (upd H1 p (.tup xs.reverse))) : tRevT K te σ H Q := h
end Dk

/-! list[::-1] -/
namespace Dk
open PySem PySem.Spec PyProof.Rows L2 PySem.SeqAt PySem.W HT
def tRevL (K : PySem.W.Frag) (te : TE) : TE := fun σ H Q => te σ H fun x H1 => ∃ a xs, x = .ref a ∧ SqL K H1 a xs ∧ ∀ p, H1 p = none → Q (.ref p) (upd H1 p (.lst xs.reverse))
theorem pe_revL {X : Cx} {e st : Expr} {te ts : TE} {pos p2 : Pos} (he : PE X e te) (hst : PE X st ts) (hv : ∀ σ H (Q : VK), Q (.int (-1)) H → ts σ H Q) : PE X (.Subscript e (.Slice none none (some st) p2) pos) (tRevL X.K te) := by
  refine ⟨fun pins s σ H Q I h => ?_⟩
  refine Subscript_ (thn (he.run pins s σ H _ I h) fun v s1 ⟨x, H1, I1, r1, q1⟩ => ?_)
  obtain ⟨a, xs, rfl, hx, q⟩ := q1
  cases r1
  refine wpAny_Slice ?_
  rw [evalPart_none]
  refine wpAny_pure ?_
  refine wpAny_pure ?_
  rw [evalPart_some]
  refine thn (hst.run pins s1 σ H1 _ I1 (hv σ H1 (fun y H2 => y = .int (-1) ∧ H2 = H1) ⟨rfl, rfl⟩)) fun u s2 ⟨y, H2, I2, ry, qy, eH⟩ => ?_
  subst qy eH
  obtain ⟨tk, rfl⟩ := ry
  have I3 : Inv X pins σ H2 { s2 with heap := s2.heap.push { cls := .type "slice", data := .fields #[.none, .none, .int (-1) tk] } } := I2.kept (t' := s2.toks) fun b ob q => Heap.get?_push_of_some _ q
  obtain ⟨its, r, hl, hz⟩ := I3.list hx
  have ht := hl.isList
  show wpAny (model X.prog X.w) X.A (subscriptTail e (.Slice none none (some st) p2) (.ref a) (.ref s2.heap.objs.size)) (EP X pins σ Q) X.xe { s2 with heap := s2.heap.push { cls := .type "slice", data := .fields #[.none, .none, .int (-1) tk] } }
  refine tail_any (ops := [.ref a, .ref s2.heap.objs.size]) (Heap.IsList.typeIs (s := { s2 with heap := s2.heap.push { cls := .type "slice", data := .fields #[.none, .none, .int (-1) tk] } }) ht) list_getitem_lookup ?_ (by with_unfolding_all rfl)
  refine wpAny_getItem_list_slice (s := { s2 with heap := s2.heap.push { cls := .type "slice", data := .fields #[.none, .none, .int (-1) tk] } }) ht (Heap.IsSliceOf.new ..) .none .none (.int (-1) tk) (by decide) ?_ (by rw [List.size_toArray, ← r.length]; exact hz)
  rw [krv_pick]
  refine ⟨.ref _, _, I3.laid (t' := s2.toks) (o := .lst xs.reverse) (fun b ob q => Heap.get?_push_of_some _ q) (Nat.le_refl _) ?_, rfl, q _ (I3.hok.fresh (Nat.le_refl _))⟩
  exact ⟨by rw [List.length_reverse]; exact hz, its.reverse, 0, vals_rev r, Heap.get?_push_size _ rfl⟩
theorem r_revL {K : PySem.W.Frag} {te : TE} {σ : L2.St} {H : Hp} {Q : VK} (h : te σ H fun x H1 => ∃ a xs, x = .ref a ∧ SqL K H1 a xs ∧ ∀ p, H1 p = none → Q (.ref p) (upd H1 p (.lst xs.reverse))) : tRevL K te σ H Q := h
end Dk

/-! replace of written texts, where what comes before has made a token -/
namespace Dk
open PySem PySem.Spec PyProof.Rows L2 PySem.SeqAt PySem.W HT
/-- behind it a token is out -/
def PE1 (X : Cx) (e : Expr) (te : TE) : Prop := ∀ (pins : List (Addr × Obj)) (s : Shared) (σ : L2.St) (H : Hp) (Q : VK), Inv X pins σ H s → te σ H Q → wpAny (model X.prog X.w) X.A (eval e X.env) (fun v s' => 1 ≤ s'.toks ∧ EP X pins σ Q v s') X.xe s
def PO1 (X : Cx) (e : Option Expr) (te : TO) : Prop := ∀ (pins : List (Addr × Obj)) (s : Shared) (σ : L2.St) (H : Hp) (Q : Option Int → Hp → Prop), Inv X pins σ H s → te σ H Q →
  wpAny (model X.prog X.w) X.A (evalPart e X.env) (fun v s' => 1 ≤ s'.toks ∧ ∃ i H', Inv X pins σ H' s' ∧ IsPart v i ∧ Q i H') X.xe s
section
variable {X : Cx} {o e f : Expr} {te tf : TE} {to : TE} {pos p2 : Pos} {lo hi : Option Expr} {tl th : TO}
theorem pe1_int {i : Int} {j : Nat} : PE1 X (.Constant (.int i) j pos) (tC (.int i)) := fun _ s _ H _ I h => wpAny_Constant_int ⟨Nat.succ_le_succ (Nat.zero_le _), .int i, H, I.tok _, ⟨_, rfl⟩, h⟩
theorem pe1_op {op : Operator} {r : R2} (ho : OpR X (binaryOp op) r) (ha : PE X e te) (hb : PE1 X f tf) : PE1 X (.BinOp e op f pos) (tOp r te tf) := by
  intro pins s σ H Q I h
  refine wpAny_BinOp (thn (ha.run pins s σ H _ I h) fun v s1 ⟨x, H1, I1, r1, q1⟩ => thn (hb pins s1 σ H1 _ I1 q1) fun u s2 ⟨ht, y, H2, I2, r2, q2⟩ => ?_)
  exact wpAny_mono (PySem.wpAny_toks_of ht (ho pins s2 σ H2 x y v u Q I2 r1 r2 q2)) (fun _ _ z => z) fun _ _ z => z.2
theorem po1_some (h : PE1 X e te) : PO1 X (some e) (tPart te) := by
  intro pins s σ H Q I hw
  rw [evalPart_some]
  refine thn (h pins s σ H _ I hw) fun u s1 ⟨ht, x, H1, I1, r1, q1⟩ => ?_
  obtain ⟨i, rfl, q⟩ := q1
  obtain ⟨t, rfl⟩ := r1
  exact ⟨ht, some i, H1, I1, .int i t, q⟩
theorem pe1_sliceH {r : V → Option Int → Option Int → Hp → VK → Prop} (hr : SlR X r) (he : PE X e te) (hl : PO X lo tl) (hu : PO1 X hi th) : PE1 X (.Subscript e (.Slice lo hi none p2) pos) (tSl r te tl th) := by
  intro pins s σ H Q I h
  refine Subscript_ (thn (he.run pins s σ H _ I h) fun v s1 ⟨x, H1, I1, r1, q1⟩ => ?_)
  refine wpAny_Slice (thn (hl.run pins s1 σ H1 _ I1 q1) fun vl s2 ⟨l, H2, I2, pl, q2⟩ => thn (hu pins s2 σ H2 _ I2 q2) fun vu s3 ⟨ht, u, H3, I3, pu, q3⟩ => ?_)
  rw [evalPart_none]
  refine wpAny_pure ?_
  have I4 : Inv X pins σ H3 { s3 with heap := s3.heap.push { cls := .type "slice", data := .fields #[vl, vu, .none] } } := I3.kept (t' := s3.toks) fun b ob q => Heap.get?_push_of_some _ q
  obtain ⟨T, id, hT, hty, hg⟩ := hr pins { s3 with heap := s3.heap.push { cls := .type "slice", data := .fields #[vl, vu, .none] } } σ H3 x v vl vu l u s3.heap.objs.size Q I4 r1 (Heap.IsSliceOf.new ..) pl pu q3
  refine wpAny_mono (PySem.wpAny_toks_of (n := 1) (s := { s3 with heap := s3.heap.push { cls := .type "slice", data := .fields #[vl, vu, .none] } }) ht
    (show wpAny (model X.prog X.w) X.A (subscriptTail e (.Slice lo hi none p2) v (.ref s3.heap.objs.size)) (EP X pins σ Q) X.xe { s3 with heap := s3.heap.push { cls := .type "slice", data := .fields #[vl, vu, .none] } } from
      tail_any (ops := [.ref s3.heap.objs.size, v]) hty hT hg (by with_unfolding_all rfl))) (fun _ _ z => z) fun _ _ z => z.2
theorem pe1_sliceL {r : V → Option Int → Option Int → Hp → VK → Prop} (hr : SlR X r) (he : PE X e te) (hl : PO1 X lo tl) (hu : PO X hi th) : PE1 X (.Subscript e (.Slice lo hi none p2) pos) (tSl r te tl th) := by
  intro pins s σ H Q I h
  refine Subscript_ (thn (he.run pins s σ H _ I h) fun v s1 ⟨x, H1, I1, r1, q1⟩ => ?_)
  refine wpAny_Slice (thn (hl pins s1 σ H1 _ I1 q1) fun vl s2 ⟨h2, l, H2, I2, pl, q2⟩ => wpAny_mono (PySem.wpAny_toks_of h2 (hu.run pins s2 σ H2 _ I2 q2)) (fun vu s3 ⟨ht, u, H3, I3, pu, q3⟩ => ?_) fun _ _ z => z.2)
  rw [evalPart_none]
  refine wpAny_pure ?_
  have I4 : Inv X pins σ H3 { s3 with heap := s3.heap.push { cls := .type "slice", data := .fields #[vl, vu, .none] } } := I3.kept (t' := s3.toks) fun b ob q => Heap.get?_push_of_some _ q
  obtain ⟨T, id, hT, hty, hg⟩ := hr pins { s3 with heap := s3.heap.push { cls := .type "slice", data := .fields #[vl, vu, .none] } } σ H3 x v vl vu l u s3.heap.objs.size Q I4 r1 (Heap.IsSliceOf.new ..) pl pu q3
  refine wpAny_mono (PySem.wpAny_toks_of (n := 1) (s := { s3 with heap := s3.heap.push { cls := .type "slice", data := .fields #[vl, vu, .none] } }) ht
    (show wpAny (model X.prog X.w) X.A (subscriptTail e (.Slice lo hi none p2) v (.ref s3.heap.objs.size)) (EP X pins σ Q) X.xe { s3 with heap := s3.heap.push { cls := .type "slice", data := .fields #[vl, vu, .none] } } from
      tail_any (ops := [.ref s3.heap.objs.size, v]) hty hT hg (by with_unfolding_all rfl))) (fun _ _ z => z) fun _ _ z => z.2
variable {y z : Str} {j k : Nat} {c0 c1 apos : Pos}
theorem pe_repl1 (ho : PE1 X o to) (hyz : (y == z) = false := by decide)
    (hst : starEach [.Constant (.str y) j c0, .Constant (.str z) k c1] X.env = [(false, eval (.Constant (.str y) j c0) X.env), (false, eval (.Constant (.str z) k c1) X.env)] := by rfl)
    (hbase : attributeBase o "replace" X.env (eval o X.env) = eval o X.env := by rfl) (hline : (apos.endLine == pos.line) = true := by rfl) :
    PE X (.Call (.Attribute o "replace" apos) [.Constant (.str y) j c0, .Constant (.str z) k c1] [] pos) (CwR.tReplC to y z) := by
  refine ⟨fun pins s σ H Q I h => ?_⟩
  refine PySem.Call_method2 hbase hst hline (wpAny_mono (ho pins s σ H _ I h) (fun v s1 q => ?_) fun _ _ z => z)
  obtain ⟨hk, v', H1, I1, r1, x, e1, hb, q⟩ := q
  subst e1
  obtain ⟨tx, e2⟩ := r1
  subst e2
  refine ⟨"str", _, PySem.F.plainAttrs_str, PySem.F.slot_str_replace, PySem.F.type_str_replace, typeIs_str _ _ _, (fun _ e => nomatch e), Calls.callWith_builtin rfl (Calls.evalArgs_plain (Calls.spliced_cons ?_))⟩
  refine Calls.Constant_str (Calls.spliced_cons (Calls.Constant_str (Calls.spliced_nil ?_)))
  exact PySem.SC.replace (by show s1.toks ≠ 0; omega) (by show s1.toks + 1 ≠ 0; omega) (by show s1.toks ≠ s1.toks + 1; omega) hyz hb fun t' k => ⟨.str (Txt.replace x y z), H1, I1.tok k, ⟨t', rfl⟩, q⟩
end
end Dk

/-! calls behind which a token is out -/
namespace Dk
open PySem PySem.Spec PyProof.Rows L2
/-- arguments, one of which makes a token -/
def PA1 (X : Cx) (es : List Expr) (t : TA) : Prop := ∀ (pos : Pos) (pins : List (Addr × Obj)) (s : Shared) (σ : L2.St) (H : Hp) (Q : List V → Hp → Prop), Inv X pins σ H s → t σ H Q →
  wpAny (model X.prog X.w) X.A (spliced (backTo pos (starEach es X.env))) (fun us s' => 1 ≤ s'.toks ∧ AP X pins σ Q us s') X.xe s
section
variable {X : Cx} {e : Expr} {es : List Expr} {te : TE} {t : TA}
theorem pa1_here (ha : PE1 X e te) (hr : PA X es t) (hs : starEach (e :: es) X.env = (false, eval e X.env) :: starEach es X.env := by rfl) : PA1 X (e :: es) (tCons te t) := by
  intro pos pins s σ H Q I h
  rw [hs]
  refine Calls.spliced_cons (thn (ha pins s σ H _ I h) fun u s1 ⟨ht, x, H1, I1, r1, q1⟩ => ?_)
  exact wpAny_mono (PySem.wpAny_toks_of ht (hr.run pos pins s1 σ H1 _ I1 q1)) (fun us s2 ⟨h2, xs, H2, I2, r2, q2⟩ => ⟨h2, x :: xs, H2, I2, .cons r1 r2, q2⟩) fun _ _ z => z.2
theorem pa1_later (ha : PE X e te) (hr : PA1 X es t) (hs : starEach (e :: es) X.env = (false, eval e X.env) :: starEach es X.env := by rfl) : PA1 X (e :: es) (tCons te t) := by
  intro pos pins s σ H Q I h
  rw [hs]
  refine Calls.spliced_cons (thn (ha.run pins s σ H _ I h) fun u s1 ⟨x, H1, I1, r1, q1⟩ => ?_)
  exact thn (hr pos pins s1 σ H1 _ I1 q1) fun us s2 ⟨h2, xs, H2, I2, r2, q2⟩ => ⟨h2, x :: xs, H2, I2, .cons r1 r2, q2⟩
variable {CX : CXT} {k : Nat} {f : Addr} {fd : FuncData} {ps : List Str} {sp : Sp} {E : XK} {x : Str} {p pos : Pos} {ds : List Value} {dvs : List V}
theorem pe1_call (F : FnOk X.prog X.w X.K X.mg X.base CX k f fd ps sp) (hr : Room k X.A) (hg : Gl X x) (hm : X.mg x = some (.ref f)) (hk : PySem.W.keepIn X.K (.ref f) = true) (hb : Binds X.K fd ps ds) (hd : Vals dvs ds) (hx : Passes CX X E)
    (ha : PA1 X (e :: es) t) (hdb : (x == ("__debug__" : Str)) = false := by decide) (he : starEach (e :: es) X.env = (false, eval e X.env) :: starEach es X.env := by rfl) (hpl : (backTo pos (starEach es X.env)).any (·.1) = false := by rfl) :
    PE1 X (.Call (.Name x p) (e :: es) [] pos) (tCall sp dvs E t) := by
  intro pins s σ H Q I h
  refine wpAny_Call_Name_kw (ld_glob I hg hm ?_ hdb)
  refine PySem.W.callWith_K (h₀ := X.base) I.ok.mod.kin hk (thn (ha pos pins s σ H _ I h) fun us s1 ⟨ht, vs, H1, I1, r, q⟩ => ⟨I1.kIn, ?_⟩) he hpl
  exact wpAny_mono (PySem.wpAny_toks_of ht (run_fn F hr hb hd hx I1 r q)) (fun _ _ z => z) fun _ _ z => z.2
end
end Dk

/-! words of a line, without code -/
namespace Q18
open PySem PySem.Spec PyProof.Rows L2 Dk
def smc (c : Nat) : Bool := decide (97 ≤ c) && decide (c ≤ 122)
def dgc (c : Nat) : Bool := decide (48 ≤ c) && decide (c ≤ 57)
def nmc (c : Nat) : Bool := smc c || dgc c
/-- where a run of such signs ends that begins at k -/
def runE (f : Nat → Bool) (l : List Nat) (k : Nat) : Nat := k + ((l.drop k).takeWhile f).length
theorem tw_take {f : Nat → Bool} : ∀ {l : List Nat} {i : Nat}, i < (l.takeWhile f).length → ∃ c, l[i]? = some c ∧ f c = true
  | a :: l, i, h => by
    by_cases fa : f a = true
    · rw [List.takeWhile_cons_of_pos fa] at h
      match i, h with
      | 0, _ => exact ⟨a, rfl, fa⟩
      | i + 1, h => exact tw_take (l := l) (i := i) (by simpa using h)
    · rw [List.takeWhile_cons_of_neg fa] at h
      cases h
theorem tw_end {f : Nat → Bool} : ∀ {l : List Nat} {c : Nat}, l[(l.takeWhile f).length]? = some c → f c = false
  | a :: l, c, h => by
    by_cases fa : f a = true
    · rw [List.takeWhile_cons_of_pos fa] at h
      exact tw_end (l := l) h
    · rw [List.takeWhile_cons_of_neg fa] at h
      cases h
      simpa using fa
theorem tw_le {f : Nat → Bool} (l : List Nat) : (l.takeWhile f).length ≤ l.length := (List.takeWhile_prefix f).length_le
theorem run_ge (f : Nat → Bool) (l : List Nat) (k : Nat) : k ≤ runE f l k := Nat.le_add_right ..
theorem run_le {f : Nat → Bool} {l : List Nat} {k : Nat} (h : k ≤ l.length) : runE f l k ≤ l.length := by
  unfold runE
  have := tw_le (f := f) (l.drop k)
  rw [List.length_drop] at this
  omega
theorem run_in {f : Nat → Bool} {l : List Nat} {k i : Nat} (h1 : k ≤ i) (h2 : i < runE f l k) : ∃ c, l[i]? = some c ∧ f c = true := by
  unfold runE at h2
  obtain ⟨c, hc, hf⟩ := tw_take (f := f) (l := l.drop k) (i := i - k) (by omega)
  rw [List.getElem?_drop, show k + (i - k) = i by omega] at hc
  exact ⟨c, hc, hf⟩
theorem run_off {f : Nat → Bool} {l : List Nat} {k c : Nat} (h : l[runE f l k]? = some c) : f c = false := by
  refine tw_end (l := l.drop k) ?_
  rw [List.getElem?_drop]
  exact h
/-- the end, told by what stands there -/
theorem run_eq {f : Nat → Bool} {l : List Nat} {k e : Nat} (h1 : k ≤ e) (h2 : e ≤ l.length) (hin : ∀ i c, k ≤ i → i < e → l[i]? = some c → f c = true) (hoff : ∀ c, l[e]? = some c → f c = false) : runE f l k = e := by
  rcases Nat.lt_trichotomy (runE f l k) e with z | z | z
  · have hl : runE f l k < l.length := by omega
    have a := run_off (f := f) (k := k) (List.getElem?_eq_getElem hl)
    have b := hin _ _ (run_ge f l k) z (List.getElem?_eq_getElem hl)
    rw [a] at b
    cases b
  · exact z
  · obtain ⟨c, hc, hf⟩ := run_in h1 z
    rw [hoff c hc] at hf
    cases hf
/-! ### what is read -/
inductive Res
  | bad (p : Nat)
  | ok (t : Str) (v : V) (e : Nat)
inductive TRes
  | bad (p : Nat)
  | ok (t : List Nat) (e : Nat)
def TRes.cons (c : Nat) : TRes → TRes
  | .bad p => .bad p
  | .ok t e => .ok (c :: t) e
def TRes.pre (a : List Nat) : TRes → TRes
  | .bad p => .bad p
  | .ok t e => .ok (a ++ t) e
theorem pre_nil (r : TRes) : r.pre [] = r := by cases r <;> rfl
theorem pre_cons (a : List Nat) (c : Nat) (r : TRes) : (r.cons c).pre a = r.pre (a ++ [c]) := by
  cases r with
  | bad p => rfl
  | ok t e =>
    show TRes.ok (a ++ c :: t) e = TRes.ok (a ++ [c] ++ t) e
    rw [List.append_assoc]
    rfl
/-- the inside of a quoted text -/
def scanT : List Nat → Nat → TRes
  | [], p => .bad p
  | [c], p => if c = 34 then .ok [] (p + 1) else if c = 10 then .bad p else .bad (p + 1)
  | c :: d :: r, p => if c = 34 then .ok [] (p + 1) else if c = 10 then .bad p else if c = 92 then (if d = 110 then (scanT r (p + 2)).cons 10 else if d = 92 ∨ d = 34 then (scanT r (p + 2)).cons d else .bad (p + 1)) else (scanT (d :: r) (p + 1)).cons c
theorem scan_nil (p : Nat) : scanT [] p = .bad p := by rw [scanT]
theorem scan_q (r : List Nat) (p : Nat) : scanT (34 :: r) p = .ok [] (p + 1) := by
  cases r with
  | nil => rw [scanT, if_pos rfl]
  | cons d r => rw [scanT, if_pos rfl]
theorem scan_f (r : List Nat) (p : Nat) : scanT (10 :: r) p = .bad p := by
  cases r with
  | nil => rw [scanT, if_neg (by decide), if_pos rfl]
  | cons d r => rw [scanT, if_neg (by decide), if_pos rfl]
theorem scan_b0 (p : Nat) : scanT [92] p = .bad (p + 1) := by rw [scanT, if_neg (by decide), if_neg (by decide)]
theorem scan_bn (r : List Nat) (p : Nat) : scanT (92 :: 110 :: r) p = (scanT r (p + 2)).cons 10 := by rw [scanT, if_neg (by decide), if_neg (by decide), if_pos rfl, if_pos rfl]
theorem scan_bs {d : Nat} (h : d = 92 ∨ d = 34) (r : List Nat) (p : Nat) : scanT (92 :: d :: r) p = (scanT r (p + 2)).cons d := by
  rw [scanT, if_neg (by decide), if_neg (by decide), if_pos rfl, if_neg (by rcases h with h | h <;> omega), if_pos h]
theorem scan_bx {d : Nat} (h : d ≠ 110) (h' : ¬ (d = 92 ∨ d = 34)) (r : List Nat) (p : Nat) : scanT (92 :: d :: r) p = .bad (p + 1) := by
  rw [scanT, if_neg (by decide), if_neg (by decide), if_pos rfl, if_neg h, if_neg h']
theorem scan_c {c : Nat} (h1 : c ≠ 34) (h2 : c ≠ 10) (h3 : c ≠ 92) (r : List Nat) (p : Nat) : scanT (c :: r) p = (scanT r (p + 1)).cons c := by
  cases r with
  | nil => rw [scan_nil, scanT, if_neg h1, if_neg h2]; rfl
  | cons d r => rw [scanT, if_neg h1, if_neg h2, if_neg h3]
theorem scan_ge : ∀ (n : Nat) (l : List Nat) (p : Nat), l.length ≤ n → ∀ t e, scanT l p = .ok t e → p < e ∧ e ≤ p + l.length
  | 0, l, p, hl, t, e, h => by
    have : l = [] := List.length_eq_zero_iff.mp (by omega)
    rw [this, scan_nil] at h
    cases h
  | n + 1, [], p, hl, t, e, h => by rw [scan_nil] at h; cases h
  | n + 1, c :: r, p, hl, t, e, h => by
    rw [List.length_cons] at hl ⊢
    by_cases h1 : c = 34
    · rw [h1, scan_q] at h
      cases h
      omega
    by_cases h2 : c = 10
    · rw [h2, scan_f] at h
      cases h
    by_cases h3 : c = 92
    · rw [h3] at h
      cases r with
      | nil => rw [scan_b0] at h; cases h
      | cons d r =>
        rw [List.length_cons] at hl ⊢
        by_cases h4 : d = 110
        · rw [h4, scan_bn] at h
          cases k : scanT r (p + 2) with
          | bad q => rw [k] at h; cases h
          | ok t' e' =>
            rw [k] at h
            cases h
            have := scan_ge n r (p + 2) (by omega) _ _ k
            omega
        · by_cases h5 : d = 92 ∨ d = 34
          · rw [scan_bs h5] at h
            cases k : scanT r (p + 2) with
            | bad q => rw [k] at h; cases h
            | ok t' e' =>
              rw [k] at h
              cases h
              have := scan_ge n r (p + 2) (by omega) _ _ k
              omega
          · rw [scan_bx h4 h5] at h
            cases h
    · rw [scan_c h1 h2 h3] at h
      cases k : scanT r (p + 1) with
      | bad q => rw [k] at h; cases h
      | ok t' e' =>
        rw [k] at h
        cases h
        have := scan_ge n r (p + 1) (by omega) _ _ k
        omega
def tagN : Str := "name"
def tagD : Str := "number"
def tagT : Str := "text"
def tagS : Str := "sign"
def cut (z : Str) (a b : Nat) : Str := cutS z (some (a : Int)) (some (b : Int))
def nv (z : Str) : Int := (PySem.intText? z).getD 0
def nameR (z : Str) (k : Nat) : Res :=
  match (cs z)[k]? with
  | none => .bad k
  | some c => if smc c = true then (if runE nmc (cs z) (k + 1) - k > 12 then .bad (k + 12) else .ok tagN (.str (cut z k (runE nmc (cs z) (k + 1)))) (runE nmc (cs z) (k + 1))) else .bad k
def numE (z : Str) (k : Nat) : Nat := if (cs z)[k]? = some 48 then k + 1 else min (runE dgc (cs z) (k + 1)) (k + 9)
def numR (z : Str) (k : Nat) : Res :=
  match (cs z)[k]? with
  | none => .bad k
  | some c => if dgc c = true then .ok tagD (.int (nv (cut z k (numE z k)))) (numE z k) else .bad k
def ofT : TRes → Res
  | .bad p => .bad p
  | .ok t e => .ok tagT (.str ⟨t.toArray⟩) e
def textR (z : Str) (k : Nat) : Res :=
  match (cs z)[k]? with
  | none => .bad k
  | some c => if c = 34 then ofT (scanT ((cs z).drop (k + 1)) (k + 1)) else .bad k
def wordR (z : Str) (k : Nat) : Res :=
  match (cs z)[k]? with
  | none => .bad k
  | some c => if c = 32 ∨ c = 10 then .bad k else if smc c = true then nameR z k else if dgc c = true then numR z k else if c = 34 then textR z k else .ok tagS (.str ⟨#[c]⟩) (k + 1)
theorem word_end {z : Str} {k : Nat} {t : Str} {v : V} {e : Nat} (h : wordR z k = .ok t v e) : k < e ∧ e ≤ z.length := by
  unfold wordR at h
  cases hc : (cs z)[k]? with
  | none => rw [hc] at h; cases h
  | some c =>
    have hk : k < z.length := by rw [← cs_len]; exact (List.getElem?_eq_some_iff.mp hc).1
    have hk' : k + 1 ≤ (cs z).length := by rw [cs_len]; exact hk
    rw [hc] at h
    dsimp only at h
    split at h
    · cases h
    split at h
    · rename_i hs
      unfold nameR at h
      rw [hc] at h
      dsimp only at h
      rw [if_pos hs] at h
      split at h
      · cases h
      · cases h
        have := run_ge nmc (cs z) (k + 1)
        have := run_le (f := nmc) hk'
        rw [cs_len] at this
        omega
    split at h
    · rename_i hs
      unfold numR at h
      rw [hc] at h
      dsimp only at h
      rw [if_pos hs] at h
      cases h
      unfold numE
      split
      · omega
      · have := run_ge dgc (cs z) (k + 1)
        have := run_le (f := dgc) hk'
        rw [cs_len] at this
        omega
    split at h
    · rename_i hs
      unfold textR at h
      rw [hc] at h
      dsimp only at h
      rw [if_pos hs] at h
      cases ks : scanT ((cs z).drop (k + 1)) (k + 1) with
      | bad p => rw [ks] at h; cases h
      | ok t' e' =>
        rw [ks] at h
        cases h
        have := scan_ge _ _ _ (Nat.le_refl _) _ _ ks
        rw [List.length_drop, cs_len] at this
        omega
    · cases h
      omega
abbrev Wd := Str × V
inductive LRes
  | bad (p : Nat)
  | words (l : List Wd)
/-- the words of the line from a place on -/
inductive Reads (z : Str) : Nat → List Wd → LRes → Prop
  | bad {k p acc} (h : wordR z k = .bad p) : Reads z k acc (.bad p)
  | last {k t v acc} (h : wordR z k = .ok t v z.length) : Reads z k acc (.words (acc ++ [(t, v)]))
  | off {k t v e acc c} (h : wordR z k = .ok t v e) (hc : (cs z)[e]? = some c) (h' : c ≠ 32) : Reads z k acc (.bad e)
  | more {k t v e acc r} (h : wordR z k = .ok t v e) (hc : (cs z)[e]? = some 32) (h' : Reads z (e + 1) (acc ++ [(t, v)]) r) : Reads z k acc r
theorem reads_one {z : Str} : ∀ {k : Nat} {acc : List Wd} {r r' : LRes}, Reads z k acc r → Reads z k acc r' → r = r' := by
  intro k acc r r' h
  induction h generalizing r' with
  | bad h =>
    intro g
    cases g with
    | bad g => rw [h] at g; cases g; rfl
    | last g => rw [h] at g; cases g
    | off g _ _ => rw [h] at g; cases g
    | more g _ _ => rw [h] at g; cases g
  | @last k t v acc h =>
    intro g
    have no : ∀ c, (cs z)[z.length]? ≠ some c := fun c e => by
      have := (List.getElem?_eq_some_iff.mp e).1
      rw [cs_len] at this
      omega
    cases g with
    | bad g => rw [h] at g; cases g
    | last g => rw [h] at g; cases g; rfl
    | off g hc _ => rw [h] at g; cases g; exact absurd hc (no _)
    | more g hc _ => rw [h] at g; cases g; exact absurd hc (no _)
  | @off k t v e acc c h hc hn =>
    intro g
    have no : ∀ c, (cs z)[z.length]? ≠ some c := fun c e => by
      have := (List.getElem?_eq_some_iff.mp e).1
      rw [cs_len] at this
      omega
    cases g with
    | bad g => rw [h] at g; cases g
    | last g => rw [h] at g; cases g; exact absurd hc (no _)
    | off g _ _ => rw [h] at g; cases g; rfl
    | more g hc' _ => rw [h] at g; cases g; rw [hc] at hc'; cases hc'; exact absurd rfl hn
  | @more k t v e acc r h hc hr ih =>
    intro g
    have no : ∀ c, (cs z)[z.length]? ≠ some c := fun c e => by
      have := (List.getElem?_eq_some_iff.mp e).1
      rw [cs_len] at this
      omega
    cases g with
    | bad g => rw [h] at g; cases g
    | last g => rw [h] at g; cases g; exact absurd hc (no _)
    | off g hc' hn => rw [h] at g; cases g; rw [hc] at hc'; cases hc'; exact absurd rfl hn
    | more g _ hr' => rw [h] at g; cases g; exact ih hr'
/-- the whole line -/
def Line (z : Str) (r : LRes) : Prop := (z.length = 0 ∧ r = .words []) ∨ (0 < z.length ∧ Reads z 0 [] r)
theorem line_one {z : Str} {r r' : LRes} (h : Line z r) (g : Line z r') : r = r' := by
  rcases h with ⟨h1, rfl⟩ | ⟨h1, h2⟩ <;> rcases g with ⟨g1, rfl⟩ | ⟨g1, g2⟩
  · rfl
  · omega
  · omega
  · exact reads_one h2 g2
theorem nv_ok {x : Str} (h : ∀ c ∈ cs x, dgc c = true) (h1 : cs x ≠ []) (h2 : x.length ≤ 640) : PySem.intText? x = some (nv x) := by
  have hd : PySem.NumText.AllDigits x.cps.toList := fun c hc => by
    have := h c hc
    unfold dgc at this
    rw [Bool.and_eq_true, decide_eq_true_iff, decide_eq_true_iff] at this
    exact this
  have := intText_digits hd h1 (by omega)
  unfold nv
  rw [this]
  rfl
theorem cut_cs (z : Str) (a b : Nat) : cs (cut z a b) = ((cs z).drop a).take (b - a) := cs_cut z a b
theorem num_text {z : Str} {k c : Nat} (hc : (cs z)[k]? = some c) (hd : dgc c = true) : PySem.intText? (cut z k (numE z k)) = some (nv (cut z k (numE z k))) ∧ (cut z k (numE z k)).length ≤ 640 := by
  have hk : k < (cs z).length := (List.getElem?_eq_some_iff.mp hc).1
  have rg := run_ge dgc (cs z) (k + 1)
  have rl := run_le (f := dgc) (l := cs z) (k := k + 1) hk
  have e1 : k + 1 ≤ numE z k := by unfold numE; split <;> omega
  have e9 : numE z k ≤ k + 9 := by unfold numE; split <;> omega
  have er : numE z k ≤ runE dgc (cs z) (k + 1) := by unfold numE; split <;> omega
  have len : (cut z k (numE z k)).length ≤ 9 := by
    rw [← cs_len, cut_cs, List.length_take]
    omega
  refine ⟨nv_ok (fun d hd' => ?_) (fun e => ?_) (by omega), by omega⟩
  · rw [cut_cs] at hd'
    obtain ⟨i, hi, e⟩ := List.mem_iff_getElem.mp hd'
    have g : (((cs z).drop k).take (numE z k - k))[i]? = some d := List.getElem?_eq_some_iff.mpr ⟨hi, e⟩
    rw [List.length_take, List.length_drop] at hi
    rw [List.getElem?_take_of_lt (by omega), List.getElem?_drop] at g
    rcases Nat.eq_zero_or_pos i with z0 | z0
    · rw [z0, Nat.add_zero, hc] at g
      rw [← Option.some.inj g]
      exact hd
    · obtain ⟨c', hc', hf⟩ := run_in (f := dgc) (l := cs z) (k := k + 1) (i := k + i) (by omega) (by omega)
      rw [hc'] at g
      rw [← Option.some.inj g]
      exact hf
  · rw [cut_cs] at e
    have := congrArg List.length e
    rw [List.length_take, List.length_drop, List.length_nil] at this
    omega
end Q18

namespace K18
open PySem PySem.Spec PyProof.Rows L2 Dk Q18
/-- one step of a reading -/
local macro_rules | `(tactic| walk_at "rd1") => `(tactic| first
  | ((with_reducible refine r_var (v := ?rv) ?rh ?_); (case rh => rfl))
  | with_reducible refine r_c ?_
  | with_reducible refine r_seq ?_
  | with_reducible refine r_asg ?_
  | with_reducible refine r_par ?_
  | with_reducible refine r_gname ?_
  | with_reducible refine r_op ?_
  | with_reducible refine r_forLo ?_
  | with_reducible refine r_forTo ?_
  | with_reducible refine r_forSo ?_
  | with_reducible refine r_forRo ?_
  | with_reducible refine r_forRvo ?_
  | with_reducible refine r_forZo ?_
  | with_reducible refine r_revS ?_
  | with_reducible refine r_lcRo ?_
  | with_reducible refine r_lcLo ?_
  | with_reducible refine r_yes ?_
  | with_reducible refine r_callK0 ?_
  | with_reducible refine r_break ?_
  | with_reducible refine r_continue ?_
  | with_reducible refine r_forR2o ?_
  | with_reducible refine r_forEo ?_
  | with_reducible refine r_forESo ?_
  | with_reducible refine r_xfo ?_
  | with_reducible refine r_noP ?_
  | with_reducible refine r_part ?_
  | with_reducible refine r_pI ?_
  | with_reducible refine r_gcons ?_
  | with_reducible refine r_gnil ?_
  | with_reducible refine r_mkO ?_
  | with_reducible refine r_un ?_
  | with_reducible refine r_addI ?_
  | with_reducible refine r_I0 ?_
  | with_reducible refine r_U ?_
  | with_reducible refine r_cons ?_
  | with_reducible refine r_nil ?_
  | with_reducible refine r_CB ?_
  | with_reducible refine r_call ?_
  | with_reducible refine r_callS ?_
  | with_reducible refine r_int ?_
  | with_reducible refine r_max ?_
  | with_reducible refine r_min ?_
  | with_reducible refine r_test ?_
  | with_reducible refine r_B ?_
  | with_reducible refine r_blv ?_
  | with_reducible refine r_and ?_
  | with_reducible refine r_or ?_
  | with_reducible refine r_not ?_
  | with_reducible refine r_andV ?_
  | with_reducible refine r_orV ?_
  | with_reducible refine r_notV ?_
  | with_reducible refine r_ifE ?_
  | with_reducible refine r_ifS ?_
  | with_reducible refine r_ret ?_
  | with_reducible refine r_retN ?_
  | with_reducible refine r_drop ?_
  | with_reducible refine r_next ?_
  | with_reducible refine r_sl ?_
  | with_reducible refine r_gsub ?_
  | with_reducible refine r_bm ?_
  | with_reducible refine r_bm0 ?_
  | with_reducible refine r_tup ?_
  | with_reducible refine r_lst ?_
  | with_reducible refine r_isN ?_
  | with_reducible refine r_notN ?_
  | with_reducible refine r_chain ?_
  | with_reducible refine r_callK ?_
  | with_reducible refine r_isB ?_
  | with_reducible refine r_lcEio ?_
  | with_reducible refine r_forEi ?_
  | with_reducible refine r_lcTo ?_
  | with_reducible refine r_lcSo ?_
  | with_reducible refine r_m1 ?_
  | with_reducible refine r_dget ?_
  | with_reducible refine r_din ?_
  | with_reducible refine r_dnotin ?_
  | with_reducible refine r_starC ?_
  | with_reducible refine r_callKS ?_
  | with_reducible refine r_itt ?_
  | with_reducible refine r_iff ?_
  | with_reducible refine r_ittN ?_
  | with_reducible refine r_iffN ?_
  | ((with_reducible refine r_ittD ?rh ?_); (case rh => rfl))
  | ((with_reducible refine r_iffD ?rh ?_); (case rh => rfl))
  | ((with_reducible refine r_modP ?rh ?_); (case rh => decide))
  | ((with_reducible refine r_eq ?rh ?_); (case rh => rfl))
  | ((with_reducible refine r_eqP ?rh ?_); (case rh => rfl))
  | ((with_reducible refine r_ne ?rh ?_); (case rh => rfl)))
local macro_rules | `(tactic| walk_at "rd") => `(tactic| repeat walk_at "rd1")
local macro_rules | `(tactic| walk_at "isi") => `(tactic| first | refine r_isi (b := true) (by assumption) (by decide +kernel) ?_ | refine r_isi (b := false) (by assumption) (by decide +kernel) ?_)
local macro_rules | `(tactic| walk_at "rs1") => `(tactic| first
  | with_reducible refine r_seq ?_
  | with_reducible refine r_asg ?_
  | with_reducible refine r_gname ?_
  | with_reducible refine r_ret ?_)
local macro_rules | `(tactic| walk_at "rs") => `(tactic| repeat walk_at "rs1")

def topS (i : Nat) : Stmt := PySem.Challenge.pw_deedstand_k18_whole_words_read.main.body.getD i (.Pass ⟨0, 0, 0, 0⟩)
abbrev s_quote : Stmt := topS 8
abbrev N_quote : List Str := ["text", "inside"]
theorem sc_quote : FnScope ["text", "inside"] ["text"] (defScope s_quote) := ⟨rfl, rfl, rfl, by decide +kernel, rfl, by decide +kernel, by decide +kernel⟩
abbrev s_sign_at : Stmt := topS 9
abbrev N_sign_at : List Str := ["line", "at"]
theorem sc_sign_at : FnScope ["line", "at"] ["line", "at"] (defScope s_sign_at) := ⟨rfl, rfl, rfl, by decide +kernel, rfl, by decide +kernel, by decide +kernel⟩
abbrev s_escaped : Stmt := topS 10
abbrev N_escaped : List Str := ["line", "at", "sign"]
theorem sc_escaped : FnScope ["line", "at", "sign"] ["line", "at"] (defScope s_escaped) := ⟨rfl, rfl, rfl, by decide +kernel, rfl, by decide +kernel, by decide +kernel⟩
abbrev s_unquote : Stmt := topS 11
abbrev N_unquote : List Str := ["line", "at", "signs"]
theorem sc_unquote : FnScope ["line", "at", "signs"] ["line", "at"] (defScope s_unquote) := ⟨rfl, rfl, rfl, by decide +kernel, rfl, by decide +kernel, by decide +kernel⟩
abbrev s_number_at : Stmt := topS 12
abbrev N_number_at : List Str := ["line", "at", "end"]
theorem sc_number_at : FnScope ["line", "at", "end"] ["line", "at"] (defScope s_number_at) := ⟨rfl, rfl, rfl, by decide +kernel, rfl, by decide +kernel, by decide +kernel⟩
abbrev s_name_at : Stmt := topS 13
abbrev N_name_at : List Str := ["line", "at", "end"]
theorem sc_name_at : FnScope ["line", "at", "end"] ["line", "at"] (defScope s_name_at) := ⟨rfl, rfl, rfl, by decide +kernel, rfl, by decide +kernel, by decide +kernel⟩
abbrev s_word_at : Stmt := topS 15
abbrev N_word_at : List Str := ["line", "at", "sign", "name", "end", "number", "text"]
theorem sc_word_at : FnScope ["line", "at", "sign", "name", "end", "number", "text"] ["line", "at"] (defScope s_word_at) := ⟨rfl, rfl, rfl, by decide +kernel, rfl, by decide +kernel, by decide +kernel⟩
abbrev s_placed_words : Stmt := topS 16
abbrev N_placed_words : List Str := ["line", "word", "at", "words", "begin"]
theorem sc_placed_words : FnScope ["line", "word", "at", "words", "begin"] ["line"] (defScope s_placed_words) := ⟨rfl, rfl, rfl, by decide +kernel, rfl, by decide +kernel, by decide +kernel⟩
abbrev s_words_of : Stmt := topS 17
abbrev N_words_of : List Str := ["line", "_", "word"]
theorem sc_words_of : FnScope ["line", "_", "word"] ["line"] (defScope s_words_of) := ⟨rfl, rfl, rfl, by decide +kernel, rfl, by decide +kernel, by decide +kernel⟩
abbrev s_law_start : Stmt := topS 19
abbrev N_law_start : List Str := ["_law_script", "_law_mix", "_law_cell"]
theorem sc_law_start : FnScope ["_law_script", "_law_mix", "_law_cell"] ["_law_script"] (defScope s_law_start) := ⟨rfl, rfl, rfl, by decide +kernel, rfl, by decide +kernel, by decide +kernel⟩
abbrev s_law_draw : Stmt := topS 20
abbrev N_law_draw : List Str := ["_law_state", "_law_many"]
theorem sc_law_draw : FnScope ["_law_state", "_law_many"] ["_law_state", "_law_many"] (defScope s_law_draw) := ⟨rfl, rfl, rfl, by decide +kernel, rfl, by decide +kernel, by decide +kernel⟩
abbrev s_law_small : Stmt := topS 21
abbrev N_law_small : List Str := []
theorem sc_law_small : FnScope [] [] (defScope s_law_small) := ⟨rfl, rfl, rfl, by decide +kernel, rfl, by decide +kernel, by decide +kernel⟩
abbrev s_law_signs : Stmt := topS 22
abbrev N_law_signs : List Str := ["_law_early"]
theorem sc_law_signs : FnScope ["_law_early"] [] (defScope s_law_signs) := ⟨rfl, rfl, rfl, by decide +kernel, rfl, by decide +kernel, by decide +kernel⟩
abbrev s_law_text : Stmt := topS 23
abbrev N_law_text : List Str := ["_law_state", "_law_size", "_law_signs_here", "_law_few", "_law_made_here", "_law_k"]
theorem sc_law_text : FnScope ["_law_state", "_law_size", "_law_signs_here", "_law_few", "_law_made_here", "_law_k"] ["_law_state", "_law_size"] (defScope s_law_text) := ⟨rfl, rfl, rfl, by decide +kernel, rfl, by decide +kernel, by decide +kernel⟩
abbrev s_law_quoted : Stmt := topS 24
abbrev N_law_quoted : List Str := ["_law_text_here"]
theorem sc_law_quoted : FnScope ["_law_text_here"] ["_law_text_here"] (defScope s_law_quoted) := ⟨rfl, rfl, rfl, by decide +kernel, rfl, by decide +kernel, by decide +kernel⟩
abbrev s_law_word : Stmt := topS 25
abbrev N_law_word : List Str := ["_law_state", "_law_way", "_law_known", "_law_many", "_law_name", "_law_figures", "_law_text_here", "_law_some", "_law_sign", "_law_k"]
theorem sc_law_word : FnScope ["_law_state", "_law_way", "_law_known", "_law_many", "_law_name", "_law_figures", "_law_text_here", "_law_some", "_law_sign", "_law_k"] ["_law_state"] (defScope s_law_word) := ⟨rfl, rfl, rfl, by decide +kernel, rfl, by decide +kernel, by decide +kernel⟩
abbrev s_law_begun : Stmt := topS 26
abbrev N_law_begun : List Str := ["_law_sign"]
theorem sc_law_begun : FnScope ["_law_sign"] ["_law_sign"] (defScope s_law_begun) := ⟨rfl, rfl, rfl, by decide +kernel, rfl, by decide +kernel, by decide +kernel⟩
abbrev s_law_on : Stmt := topS 27
abbrev N_law_on : List Str := ["_law_way", "_law_held", "_law_sign"]
theorem sc_law_on : FnScope ["_law_way", "_law_held", "_law_sign"] ["_law_way", "_law_held", "_law_sign"] (defScope s_law_on) := ⟨rfl, rfl, rfl, by decide +kernel, rfl, by decide +kernel, by decide +kernel⟩
abbrev s_law_made : Stmt := topS 28
abbrev N_law_made : List Str := ["_law_way", "_law_held", "_law_made_here", "_law_escape", "_law_sign"]
theorem sc_law_made : FnScope ["_law_way", "_law_held", "_law_made_here", "_law_escape", "_law_sign"] ["_law_way", "_law_held"] (defScope s_law_made) := ⟨rfl, rfl, rfl, by decide +kernel, rfl, by decide +kernel, by decide +kernel⟩
abbrev s_law_one : Stmt := topS 29
abbrev N_law_one : List Str := ["_law_line", "_law_at", "_law_way", "_law_held", "_law_k", "_law_now"]
theorem sc_law_one : FnScope ["_law_line", "_law_at", "_law_way", "_law_held", "_law_k", "_law_now"] ["_law_line", "_law_at"] (defScope s_law_one) := ⟨rfl, rfl, rfl, by decide +kernel, rfl, by decide +kernel, by decide +kernel⟩
abbrev s_law_words : Stmt := topS 30
abbrev N_law_words : List Str := ["_law_line", "_law_made_here", "_law_at", "_law_lap", "_law_told"]
theorem sc_law_words : FnScope ["_law_line", "_law_made_here", "_law_at", "_law_lap", "_law_told"] ["_law_line"] (defScope s_law_words) := ⟨rfl, rfl, rfl, by decide +kernel, rfl, by decide +kernel, by decide +kernel⟩
abbrev s_law_is : Stmt := topS 31
abbrev N_law_is : List Str := ["_law_due", "_law_told"]
theorem sc_law_is : FnScope ["_law_due", "_law_told"] ["_law_due", "_law_told"] (defScope s_law_is) := ⟨rfl, rfl, rfl, by decide +kernel, rfl, by decide +kernel, by decide +kernel⟩
abbrev s_law_pair : Stmt := topS 32
abbrev N_law_pair : List Str := ["_law_due", "_law_told"]
theorem sc_law_pair : FnScope ["_law_due", "_law_told"] ["_law_due", "_law_told"] (defScope s_law_pair) := ⟨rfl, rfl, rfl, by decide +kernel, rfl, by decide +kernel, by decide +kernel⟩
abbrev s_law_read : Stmt := topS 33
abbrev N_law_read : List Str := ["_law_line", "_law_told", "e"]
theorem sc_law_read : FnScope ["_law_line", "_law_told", "e"] ["_law_line"] (defScope s_law_read) := ⟨rfl, rfl, rfl, by decide +kernel, rfl, by decide +kernel, by decide +kernel⟩
abbrev s_law_holds : Stmt := topS 34
abbrev N_law_holds : List Str := ["_law_line", "_law_due", "_law_told", "_law_k"]
theorem sc_law_holds : FnScope ["_law_line", "_law_due", "_law_told", "_law_k"] ["_law_line"] (defScope s_law_holds) := ⟨rfl, rfl, rfl, by decide +kernel, rfl, by decide +kernel, by decide +kernel⟩
abbrev s_law_reader : Stmt := topS 35
abbrev N_law_reader : List Str := ["_law_which", "_law_line", "_law_at", "_law_told", "e"]
theorem sc_law_reader : FnScope ["_law_which", "_law_line", "_law_at", "_law_told", "e"] ["_law_which", "_law_line", "_law_at"] (defScope s_law_reader) := ⟨rfl, rfl, rfl, by decide +kernel, rfl, by decide +kernel, by decide +kernel⟩
abbrev s_law_places : Stmt := topS 36
abbrev N_law_places : List Str := ["_law_line", "_law_at", "_law_due", "_law_kind", "_law_which", "_law_told"]
theorem sc_law_places : FnScope ["_law_line", "_law_at", "_law_due", "_law_kind", "_law_which", "_law_told"] ["_law_line"] (defScope s_law_places) := ⟨rfl, rfl, rfl, by decide +kernel, rfl, by decide +kernel, by decide +kernel⟩
abbrev s_law_quotes : Stmt := topS 37
abbrev N_law_quotes : List Str := ["_law_text_here", "_law_ahead", "_law_behind", "_law_told", "_law_line"]
theorem sc_law_quotes : FnScope ["_law_text_here", "_law_ahead", "_law_behind", "_law_told", "_law_line"] ["_law_text_here", "_law_ahead", "_law_behind"] (defScope s_law_quotes) := ⟨rfl, rfl, rfl, by decide +kernel, rfl, by decide +kernel, by decide +kernel⟩
abbrev s_law_bent : Stmt := topS 38
abbrev N_law_bent : List Str := ["_law_state", "_law_line", "_law_some", "_law_sign", "_law_at", "_law_way"]
theorem sc_law_bent : FnScope ["_law_state", "_law_line", "_law_some", "_law_sign", "_law_at", "_law_way"] ["_law_state", "_law_line"] (defScope s_law_bent) := ⟨rfl, rfl, rfl, by decide +kernel, rfl, by decide +kernel, by decide +kernel⟩
abbrev s_law : Stmt := topS 39
abbrev N_law : List Str := ["_law_script", "_law_state", "_law_k", "_law_words_here", "_law_line", "_law_told", "_law_size", "_law_bent_here", "_law_lap", "_law_odd", "_law_thing", "_law_text_here", "_law_word_here"]
theorem sc_law : FnScope ["_law_script", "_law_state", "_law_k", "_law_words_here", "_law_line", "_law_told", "_law_size", "_law_bent_here", "_law_lap", "_law_odd", "_law_thing", "_law_text_here", "_law_word_here"] ["_law_script"] (defScope s_law) := ⟨rfl, rfl, rfl, by decide +kernel, rfl, by decide +kernel, by decide +kernel⟩
abbrev s_init_BadLine : Stmt := inClass (topS 2) 0
theorem sc_init_BadLine : FnScope ["self", "at"] ["self", "at"] (defScope s_init_BadLine) := ⟨rfl, rfl, rfl, by decide +kernel, rfl, by decide +kernel, by decide +kernel⟩
structure Txt (K : PySem.W.Frag) (mg : Str → Option Value) where
  a_quote : Addr
  d_quote : FuncData
  F_quote : Fun K "quote" "quote" s_quote a_quote d_quote
  g_quote : mg "quote" = some (.ref a_quote)
  b_quote : Binds K d_quote ["text"] []
  a_sign_at : Addr
  d_sign_at : FuncData
  F_sign_at : Fun K "sign_at" "sign_at" s_sign_at a_sign_at d_sign_at
  g_sign_at : mg "sign_at" = some (.ref a_sign_at)
  b_sign_at : Binds K d_sign_at ["line", "at"] []
  a_escaped : Addr
  d_escaped : FuncData
  F_escaped : Fun K "escaped" "escaped" s_escaped a_escaped d_escaped
  g_escaped : mg "escaped" = some (.ref a_escaped)
  b_escaped : Binds K d_escaped ["line", "at"] []
  a_unquote : Addr
  d_unquote : FuncData
  F_unquote : Fun K "unquote" "unquote" s_unquote a_unquote d_unquote
  g_unquote : mg "unquote" = some (.ref a_unquote)
  b_unquote : Binds K d_unquote ["line", "at"] []
  a_number_at : Addr
  d_number_at : FuncData
  F_number_at : Fun K "number_at" "number_at" s_number_at a_number_at d_number_at
  g_number_at : mg "number_at" = some (.ref a_number_at)
  b_number_at : Binds K d_number_at ["line", "at"] []
  a_name_at : Addr
  d_name_at : FuncData
  F_name_at : Fun K "name_at" "name_at" s_name_at a_name_at d_name_at
  g_name_at : mg "name_at" = some (.ref a_name_at)
  b_name_at : Binds K d_name_at ["line", "at"] []
  a_word_at : Addr
  d_word_at : FuncData
  F_word_at : Fun K "word_at" "word_at" s_word_at a_word_at d_word_at
  g_word_at : mg "word_at" = some (.ref a_word_at)
  b_word_at : Binds K d_word_at ["line", "at"] []
  a_placed_words : Addr
  d_placed_words : FuncData
  F_placed_words : Fun K "placed_words" "placed_words" s_placed_words a_placed_words d_placed_words
  g_placed_words : mg "placed_words" = some (.ref a_placed_words)
  b_placed_words : Binds K d_placed_words ["line"] []
  a_words_of : Addr
  d_words_of : FuncData
  F_words_of : Fun K "words_of" "words_of" s_words_of a_words_of d_words_of
  g_words_of : mg "words_of" = some (.ref a_words_of)
  b_words_of : Binds K d_words_of ["line"] []
  a_law_start : Addr
  d_law_start : FuncData
  F_law_start : Fun K "_law_start" "_law_start" s_law_start a_law_start d_law_start
  g_law_start : mg "_law_start" = some (.ref a_law_start)
  b_law_start : Binds K d_law_start ["_law_script"] []
  a_law_draw : Addr
  d_law_draw : FuncData
  F_law_draw : Fun K "_law_draw" "_law_draw" s_law_draw a_law_draw d_law_draw
  g_law_draw : mg "_law_draw" = some (.ref a_law_draw)
  b_law_draw : Binds K d_law_draw ["_law_state", "_law_many"] []
  a_law_small : Addr
  d_law_small : FuncData
  F_law_small : Fun K "_law_small" "_law_small" s_law_small a_law_small d_law_small
  g_law_small : mg "_law_small" = some (.ref a_law_small)
  b_law_small : Binds K d_law_small [] []
  a_law_signs : Addr
  d_law_signs : FuncData
  F_law_signs : Fun K "_law_signs" "_law_signs" s_law_signs a_law_signs d_law_signs
  g_law_signs : mg "_law_signs" = some (.ref a_law_signs)
  b_law_signs : Binds K d_law_signs [] []
  a_law_text : Addr
  d_law_text : FuncData
  F_law_text : Fun K "_law_text" "_law_text" s_law_text a_law_text d_law_text
  g_law_text : mg "_law_text" = some (.ref a_law_text)
  b_law_text : Binds K d_law_text ["_law_state", "_law_size"] []
  a_law_quoted : Addr
  d_law_quoted : FuncData
  F_law_quoted : Fun K "_law_quoted" "_law_quoted" s_law_quoted a_law_quoted d_law_quoted
  g_law_quoted : mg "_law_quoted" = some (.ref a_law_quoted)
  b_law_quoted : Binds K d_law_quoted ["_law_text_here"] []
  a_law_word : Addr
  d_law_word : FuncData
  F_law_word : Fun K "_law_word" "_law_word" s_law_word a_law_word d_law_word
  g_law_word : mg "_law_word" = some (.ref a_law_word)
  b_law_word : Binds K d_law_word ["_law_state"] []
  a_law_begun : Addr
  d_law_begun : FuncData
  F_law_begun : Fun K "_law_begun" "_law_begun" s_law_begun a_law_begun d_law_begun
  g_law_begun : mg "_law_begun" = some (.ref a_law_begun)
  b_law_begun : Binds K d_law_begun ["_law_sign"] []
  a_law_on : Addr
  d_law_on : FuncData
  F_law_on : Fun K "_law_on" "_law_on" s_law_on a_law_on d_law_on
  g_law_on : mg "_law_on" = some (.ref a_law_on)
  b_law_on : Binds K d_law_on ["_law_way", "_law_held", "_law_sign"] []
  a_law_made : Addr
  d_law_made : FuncData
  F_law_made : Fun K "_law_made" "_law_made" s_law_made a_law_made d_law_made
  g_law_made : mg "_law_made" = some (.ref a_law_made)
  b_law_made : Binds K d_law_made ["_law_way", "_law_held"] []
  a_law_one : Addr
  d_law_one : FuncData
  F_law_one : Fun K "_law_one" "_law_one" s_law_one a_law_one d_law_one
  g_law_one : mg "_law_one" = some (.ref a_law_one)
  b_law_one : Binds K d_law_one ["_law_line", "_law_at"] []
  a_law_words : Addr
  d_law_words : FuncData
  F_law_words : Fun K "_law_words" "_law_words" s_law_words a_law_words d_law_words
  g_law_words : mg "_law_words" = some (.ref a_law_words)
  b_law_words : Binds K d_law_words ["_law_line"] []
  a_law_is : Addr
  d_law_is : FuncData
  F_law_is : Fun K "_law_is" "_law_is" s_law_is a_law_is d_law_is
  g_law_is : mg "_law_is" = some (.ref a_law_is)
  b_law_is : Binds K d_law_is ["_law_due", "_law_told"] []
  a_law_pair : Addr
  d_law_pair : FuncData
  F_law_pair : Fun K "_law_pair" "_law_pair" s_law_pair a_law_pair d_law_pair
  g_law_pair : mg "_law_pair" = some (.ref a_law_pair)
  b_law_pair : Binds K d_law_pair ["_law_due", "_law_told"] []
  a_law_read : Addr
  d_law_read : FuncData
  F_law_read : Fun K "_law_read" "_law_read" s_law_read a_law_read d_law_read
  g_law_read : mg "_law_read" = some (.ref a_law_read)
  b_law_read : Binds K d_law_read ["_law_line"] []
  a_law_holds : Addr
  d_law_holds : FuncData
  F_law_holds : Fun K "_law_holds" "_law_holds" s_law_holds a_law_holds d_law_holds
  g_law_holds : mg "_law_holds" = some (.ref a_law_holds)
  b_law_holds : Binds K d_law_holds ["_law_line"] []
  a_law_reader : Addr
  d_law_reader : FuncData
  F_law_reader : Fun K "_law_reader" "_law_reader" s_law_reader a_law_reader d_law_reader
  g_law_reader : mg "_law_reader" = some (.ref a_law_reader)
  b_law_reader : Binds K d_law_reader ["_law_which", "_law_line", "_law_at"] []
  a_law_places : Addr
  d_law_places : FuncData
  F_law_places : Fun K "_law_places" "_law_places" s_law_places a_law_places d_law_places
  g_law_places : mg "_law_places" = some (.ref a_law_places)
  b_law_places : Binds K d_law_places ["_law_line"] []
  a_law_quotes : Addr
  d_law_quotes : FuncData
  F_law_quotes : Fun K "_law_quotes" "_law_quotes" s_law_quotes a_law_quotes d_law_quotes
  g_law_quotes : mg "_law_quotes" = some (.ref a_law_quotes)
  b_law_quotes : Binds K d_law_quotes ["_law_text_here", "_law_ahead", "_law_behind"] []
  a_law_bent : Addr
  d_law_bent : FuncData
  F_law_bent : Fun K "_law_bent" "_law_bent" s_law_bent a_law_bent d_law_bent
  g_law_bent : mg "_law_bent" = some (.ref a_law_bent)
  b_law_bent : Binds K d_law_bent ["_law_state", "_law_line"] []
  a_law : Addr
  d_law : FuncData
  F_law : Fun K "law" "law" s_law a_law d_law
  g_law : mg "law" = some (.ref a_law)
  b_law : Binds K d_law ["_law_script"] []
  c_BadLine : Addr
  ai_BadLine : Addr
  d_BadLine : FuncData
  F_BadLine : Fun K "__init__" "BadLine.__init__" s_init_BadLine ai_BadLine d_BadLine
  b_BadLine : Binds K d_BadLine ["self", "at"] []
  g_BadLine : mg "BadLine" = some (.ref c_BadLine)
  o_BadLine : OexC K c_BadLine
  x_BadLine : XfC K c_BadLine
  i_BadLine : PySem.W.findIn K (.ref c_BadLine) "__init__" = some (some (.ref ai_BadLine))
  ti_BadLine : PySem.W.typeIn K (.ref ai_BadLine) = some (.type "function")
  e_BadLine : PySem.W.exmOne K (.ref c_BadLine) (.ref c_BadLine) = some true
  na_BadLine_at : PySem.W.findIn K (.ref c_BadLine) "at" = some none
  t_DIGITS : Tok
  g_DIGITS : mg "DIGITS" = some (.str "0123456789" t_DIGITS)
  t_SMALL_LETTERS : Tok
  g_SMALL_LETTERS : mg "SMALL_LETTERS" = some (.str "abcdefghijklmnopqrstuvwxyz" t_SMALL_LETTERS)
  t_LONGEST_NAME : Tok
  g_LONGEST_NAME : mg "LONGEST_NAME" = some (.int 12 t_LONGEST_NAME)
  t_MOST_DIGITS : Tok
  g_MOST_DIGITS : mg "MOST_DIGITS" = some (.int 9 t_MOST_DIGITS)
  n_bool : mg "bool" = none
  n_int : mg "int" = none
  n_isinstance : mg "isinstance" = none
  n_len : mg "len" = none
  n_list : mg "list" = none
  n_range : mg "range" = none
  n_str : mg "str" = none
  n_tuple : mg "tuple" = none
/-- the state of the draws -/
def cell (a : Addr) : Box where
  A := fun x => x = a
  B := fun H => Stt H a
  live := fun H h x e => by
    obtain ⟨z, q, _⟩ := h
    exact ⟨_, by rw [e]; exact q⟩
  keep := fun H H' h e => h.imp fun z q => ⟨e _ _ rfl q.1, q.2⟩
def spStartC (K : PySem.W.Frag) : Sp := fun vs H Q _ => ∃ (s : Addr) (ns : List Int), vs = [.ref s] ∧ SqL K H s (ns.map V.int) ∧ ∀ p H', Ex H H' → H p = none → Stt H' p → Q (.ref p) H'
def spDrawC : Sp := fun vs H Q _ => ∃ (a : Addr) (n : Int), vs = [.ref a, .int n] ∧ Stt H a ∧ 0 < n ∧ ∀ (d : Nat) H', (d : Int) < n → Drw (cell a) H H' → Q (.int (d : Nat)) H'
def SM : Str := "abcdefghijklmnopqrstuvwxyz"
def spSmall : Sp := fun vs H Q _ => vs = [] ∧ Q (.str SM) H
def SG : Str := " \n!\"#$&'()*+,-./0123456789:;<=>?@ABCDEFGHIJKLMNOPQRSTUVWXYZ[\\]^_`abcdefghijklmnopqrstuvwxyz{|}~"
theorem SG_len : SG.length = 95 := by decide +kernel
def spSignsG : Sp := fun vs H Q _ => vs = [] ∧ Q (.str SG) H
def spTextC : Sp := fun vs H Q _ => ∃ (a : Addr) (n : Nat), vs = [.ref a, .int (n : Nat)] ∧ Stt H a ∧ n ≤ 8000 ∧ ∀ o H', Drw (cell a) H H' → o.length = n → Q (.str o) H'
theorem s_at {z : Str} {d : Nat} (h : d < z.length) : ∃ c, (cs z)[d]? = some c ∧ atI z.cps.toList (d : Nat) = some c := by
  have hl : d < (cs z).length := by rw [cs_len]; exact h
  exact ⟨(cs z)[d], List.getElem?_eq_getElem hl, atI_nat (List.getElem?_eq_getElem hl)⟩
theorem join_signs (ls : List Nat) : cs (Txt.join "" (ls.map fun c => (⟨#[c]⟩ : Str))) = ls := by
  rw [cs_join, List.map_map]
  induction ls with
  | nil => rfl
  | cons c r ih => rw [List.map_cons, List.flatten_cons, ih]; rfl
theorem sum_signs (ls : List Nat) : ((ls.map fun c => (⟨#[c]⟩ : Str)).map (·.length)).sum = ls.length := by
  rw [List.map_map]
  induction ls with
  | nil => rfl
  | cons c r ih => rw [List.map_cons, List.sum_cons, ih, List.length_cons]; show 1 + _ = _; omega
theorem r_joinSg {K : PySem.W.Frag} {C : Addr} {ls : List Nat} {H : Hp} {Q : VK} (h : H C = some (.lst ((ls.map fun c => (⟨#[c]⟩ : Str)).map V.str))) (hl : ls.length ≤ 16777216) (q : ∀ o : Str, cs o = ls → Q (.str o) H) : rJoin K (.str "") [.ref C] H Q := by
  refine ⟨"", C, _, rfl, rfl, .inl (sqL h), ?_, q _ (join_signs ls)⟩
  rw [sum_signs]
  show ls.length + _ * 0 ≤ _
  omega
section
variable {P : Program} {w : World} {K : PySem.W.Frag} {mg : Str → Option Value} {base : Heap}
theorem ok_law_start (T : Txt K mg) : FnOk P w K mg base CX0 1 T.a_law_start T.d_law_start ["_law_script"] (spStartC K) := by
  refine T.F_law_start.ok sc_law_start (fun vs H Q E h => ?_) (fun cdv A outer s H vs Q E hr h => ?_)
  · obtain ⟨a, ns, rfl, _⟩ := h
    rfl
  · obtain ⟨a, ns, rfl, hS, q⟩ := h
    refine ⟨_, (pss_cons (ps_set (i := 1) sc_law_start.nd rfl (Or.inl rfl) pe_int)
        (pss_cons (ps_for PassesOwn.never rfl (pi_list (pv 0)) (pg_name (i := 2) sc_law_start.nd rfl (Or.inl rfl)) (pss_one (ps_set (i := 1) sc_law_start.nd rfl (Or.inl rfl) (pe_op op_modP (pe_op op_addU (pe_op op_addU (pe_op op_mulWW (pv 1) pe_int) (pe_op op_modP (pe_callTy call_intU (by rfl) T.n_int (by decide +kernel) (pa_cons (pv 2) pa_nil)) pe_int)) pe_int) pe_int))))
        (pss_one (ps_ret (pe_lst (pa_cons (pv 1) pa_nil)))))), ?_⟩
    walk_at "rd"
    refine l_L hS (fun i σ H' => ∃ z y, σ = [some (.ref a), some (.int z), y] ∧ 0 ≤ z ∧ z < M61 ∧ H' = H) ⟨_, none, rfl, by decide, by decide, rfl⟩ (fun i σ H' h => ?_) (fun i x σ H' hx hP => ?_) (fun σ H' hP => ?_)
    · obtain ⟨_, _, _, _, _, rfl⟩ := h
      exact hS
    · obtain ⟨z, y, rfl, h0, h1, rfl⟩ := hP
      obtain ⟨c, hc, rfl⟩ : ∃ c, ns[i]? = some c ∧ x = V.int c := by
        rw [List.getElem?_map] at hx
        cases e : ns[i]? with
        | none => rw [e] at hx; cases hx
        | some c => rw [e] at hx; exact ⟨c, rfl, (Option.some.inj hx).symm⟩
      walk_at "rd"
      refine r_mulW (wide_mul (a := 61) (b := 33) (nat61 h0 h1) (by decide) (by decide) (by decide) (by decide)) ?_
      walk_at "rd"
      exact ⟨_, _, rfl, (mix_next (z := z) _).1, (mix_next (z := z) _).2, rfl⟩
    · obtain ⟨z, y, rfl, h0, h1, rfl⟩ := hP
      walk_at "rd"
      exact r_small (Nat.le_of_ble_eq_true rfl) fun p hp => q p _ (Same.new (Same.refl _) hp) hp ⟨z, upd_same, h0, h1⟩
theorem ok_law_draw (T : Txt K mg) : FnOk P w K mg base CX0 1 T.a_law_draw T.d_law_draw ["_law_state", "_law_many"] spDrawC := by
  refine T.F_law_draw.ok sc_law_draw (fun vs H Q E h => ?_) (fun cdv A outer s H vs Q E hr h => ?_)
  · obtain ⟨a, n, rfl, _⟩ := h
    rfl
  · obtain ⟨a, n, rfl, ⟨z, hz, z0, z1⟩, hn, q⟩ := h
    refine ⟨_, (pss_cons (ps_asg (pe_op op_modP (pe_op op_addU (pe_op op_mulWW (pe_callTy call_intU (by rfl) T.n_int (by decide +kernel) (pa_cons (pe_ix ix_seq (pv 0) pe_int (fun _ _ => rfl)) pa_nil)) pe_int) pe_int) pe_int) (pg_sub (pv 0) pe_int set_list))
        (pss_one (ps_ret (pe_op op_modP (pe_op op_divW (pe_callTy call_intU (by rfl) T.n_int (by decide +kernel) (pa_cons (pe_ix ix_seq (pv 0) pe_int (fun _ _ => rfl)) pa_nil)) pe_int) (pv 1))))), ?_⟩
    walk_at "rd"
    refine r_ixL (sqL hz) (atI_nat (j := 0) rfl) ?_
    walk_at "rd"
    refine r_mulW (wide_mul (a := 61) (b := 41) (nat61 z0 z1) (by decide) (by decide) (by decide) (by decide)) ?_
    walk_at "rd"
    refine r_setL hz (n := 0) rfl ?_
    walk_at "rd"
    refine r_ixL (sqL upd_same) (atI_nat (j := 0) rfl) ?_
    walk_at "rd"
    refine r_divW (wide_div (b := 21) (by decide) (by decide) (by decide) (by decide)) ?_
    walk_at "rd"
    refine r_modP hn ?_
    have e0 := Int.emod_nonneg ((z * 1181783497211 + 50021) % 2305843009213693951 / 1048576) (show n ≠ 0 by omega)
    obtain ⟨d, hd⟩ := Int.eq_ofNat_of_zero_le e0
    rw [hd]
    exact q d _ (by rw [← hd]; exact Int.emod_lt_of_pos _ hn) ⟨fun b o nb e => by rw [upd_ne nb]; exact e, _, upd_same, (mix_next (z := z) _).1, (mix_next (z := z) _).2⟩
theorem ok_law_small (T : Txt K mg) : FnOk P w K mg base CX0 1 T.a_law_small T.d_law_small [] spSmall := by
  refine T.F_law_small.ok sc_law_small (fun vs H Q E h => ?_) (fun cdv A outer s H vs Q E hr h => ?_)
  · obtain ⟨rfl, _⟩ := h
    rfl
  · obtain ⟨rfl, q⟩ := h
    refine ⟨_, (pss_one (ps_ret pe_str)), ?_⟩
    walk_at "rd"
    exact q
theorem ok_law_signs (T : Txt K mg) : FnOk P w K mg base CX0 2 T.a_law_signs T.d_law_signs [] spSignsG := by
  refine T.F_law_signs.ok sc_law_signs (fun vs H Q E h => ?_) (fun cdv A outer s H vs Q E hr h => ?_)
  · obtain ⟨rfl, _⟩ := h
    rfl
  · obtain ⟨rfl, q⟩ := h
    refine ⟨_, (pss_cons (ps_set (i := 0) sc_law_signs.nd rfl (Or.inl rfl) pe_str)
        (pss_one (ps_ret (pe_op op_addU (pe_op op_addU (pv 0) (pe_call0 (ok_law_small T) hr (by rfl) T.g_law_small T.F_law_small.kp T.b_law_small .nil pass0)) pe_str)))), ?_⟩
    walk_at "rd"
    refine ⟨rfl, ?_⟩
    refine r_addS (by decide +kernel) ?_
    walk_at "rd"
    refine r_addS (by decide +kernel) ?_
    have e : ∀ a b c : Str, a ++ b ++ c = SG → Q (.str (a ++ b ++ c)) H := fun a b c h => by rw [h]; exact q
    exact e _ _ _ (by decide +kernel)
theorem ok_law_text (T : Txt K mg) : FnOk P w K mg base CX0 3 T.a_law_text T.d_law_text ["_law_state", "_law_size"] spTextC := by
  refine T.F_law_text.ok sc_law_text (fun vs H Q E h => ?_) (fun cdv A outer s H vs Q E hr h => ?_)
  · obtain ⟨a, n, rfl, _⟩ := h
    rfl
  · obtain ⟨a, n, rfl, hs, hn, q⟩ := h
    refine ⟨_, (pss_cons (ps_set (i := 2) sc_law_text.nd rfl (Or.inl rfl) (pe_call0 (ok_law_signs T) hr (by rfl) T.g_law_signs T.F_law_signs.kp T.b_law_signs .nil pass0))
        (pss_cons (ps_set (i := 3) sc_law_text.nd rfl (Or.inl rfl) (pe_op op_addU pe_str (pe_ix ix_seq (pv 2) (pe_call (ok_law_draw T) (hr.mono (by decide)) (by rfl) T.g_law_draw T.F_law_draw.kp T.b_law_draw .nil pass0 (pa_cons (pv 0) (pa_cons pe_int pa_nil))) (fun _ _ => rfl))))
        (pss_cons (ps_set (i := 4) sc_law_text.nd rfl (Or.inl rfl) (pe_lst pa_nil))
        (pss_cons (ps_for PassesOwn.never rfl (pi_range1 (by rfl) T.n_range (pa_cons (pv 1) pa_nil)) (pg_name (i := 5) sc_law_text.nd rfl (Or.inl rfl)) (pss_one (ps_if (pt_cmpR (op_eqU hr.units) (pe_call (ok_law_draw T) (hr.mono (by decide)) (by rfl) T.g_law_draw T.F_law_draw.kp T.b_law_draw .nil pass0 (pa_cons (pv 0) (pa_cons pe_int pa_nil))) pe_int (nomark _)) (pss_one (ps_expr (pe_bm PySem.F.plainAttrs_list PySem.F.slot_list_append PySem.F.type_list_append mt_append (pv 4) (pa_cons (pe_ix ix_seq (pv 3) (pe_call (ok_law_draw T) (hr.mono (by decide)) (by rfl) T.g_law_draw T.F_law_draw.kp T.b_law_draw .nil pass0 (pa_cons (pv 0) (pa_cons pe_int pa_nil))) (fun _ _ => rfl)) pa_nil)))) (pss_one (ps_expr (pe_bm PySem.F.plainAttrs_list PySem.F.slot_list_append PySem.F.type_list_append mt_append (pv 4) (pa_cons (pe_ix ix_seq (pv 2) (pe_call (ok_law_draw T) (hr.mono (by decide)) (by rfl) T.g_law_draw T.F_law_draw.kp T.b_law_draw .nil pass0 (pa_cons (pv 0) (pa_cons pe_int pa_nil))) (fun _ _ => rfl)) pa_nil)))))))
        (pss_one (ps_ret (pe_join pe_str (pv 4)))))))), ?_⟩
    have al : SG.length ≤ sizeLine := by rw [SG_len]; decide
    walk_at "rd"
    refine ⟨rfl, ?_⟩
    walk_at "rd"
    refine ⟨a, 95, rfl, hs, by decide, fun d H1 d1 D1 => ?_⟩
    walk_at "rd"
    obtain ⟨c, _, ha⟩ := s_at (z := SG) (d := d) (by rw [SG_len]; omega)
    refine r_ixS al ha ?_
    walk_at "rd"
    have fl : (Str.ofString "\n\"\\ n").length = 5 := by decide +kernel
    have cl : (⟨#[c]⟩ : Str).length = 1 := rfl
    refine r_addS (by rw [fl, cl]; decide) ?_
    obtain ⟨few, ef, lf⟩ : ∃ few, few = Str.ofString "\n\"\\ n" ++ ⟨#[c]⟩ ∧ few.length = 6 := ⟨_, rfl, by rw [app_len, fl, cl]⟩
    rw [← ef]
    have fs : few.length ≤ sizeLine := by rw [lf]; decide
    walk_at "rd"
    refine r_small nsz fun m hm => ?_
    have nam := (cell a).fresh D1.st hm
    have fr : H m = none := by
      cases e : H m with
      | none => rfl
      | some o => rw [D1.at nam e] at hm; cases hm
    walk_at "rd"
    refine l_R (by omega) (by omega) (fun i σ H' => ∃ y1 ls, σ = [some (.ref a), some (.int (n : Nat)), some (.str SG), some (.str few), some (.ref m), y1] ∧ Drw (cell a) H H' ∧
      H' m = some (.lst ((ls.map fun c => (⟨#[c]⟩ : Str)).map V.str)) ∧ ls.length = i) ⟨none, [], rfl, D1.new hm, upd_same, rfl⟩ (fun i σ H' hi hP => ?_) (fun σ H' hP => ?_)
    · obtain ⟨y1, ls, rfl, D, hm', hl⟩ := hP
      walk_at "rd"
      refine ⟨a, 2, rfl, D.st, by decide, fun p H3 p1 D3 => ?_⟩
      walk_at "rd"
      have put : ∀ (c' : Nat) (H4 : Hp) (y1 : Option V), Drw (cell a) H' H4 → ∃ (y1' : Option V) (ls' : List Nat), [some (V.ref a), some (.int (n : Nat)), some (.str SG), some (.str few), some (.ref m), y1] = [some (V.ref a), some (.int (n : Nat)), some (.str SG), some (.str few), some (.ref m), y1'] ∧
          Drw (cell a) H (upd H4 m (.lst ((ls.map fun c => (⟨#[c]⟩ : Str)).map V.str ++ [.str ⟨#[c']⟩]))) ∧ upd H4 m (.lst ((ls.map fun c => (⟨#[c]⟩ : Str)).map V.str ++ [.str ⟨#[c']⟩])) m = some (.lst ((ls'.map fun c => (⟨#[c]⟩ : Str)).map V.str)) ∧ ls'.length = i + 1 := by
        intro c' H4 y1 D4
        exact ⟨y1, ls ++ [c'], rfl, (D.trans D4).put fr nam, by rw [upd_same, List.map_append, List.map_append]; rfl, by rw [List.length_append, hl]; rfl⟩
      have sm : (List.map V.str (ls.map fun c => (⟨#[c]⟩ : Str))).length < sizeLine := by
        rw [List.length_map, List.length_map]
        exact Nat.lt_of_le_of_lt (show ls.length ≤ 8000 by omega) (by decide)
      refine r_ite (fun h5 => ?_) (fun h5 => ?_)
      · walk_at "rd"
        refine r_tyL (sqL (D3.at nam hm')) ?_
        walk_at "rd"
        refine ⟨a, 6, rfl, D3.st, by decide, fun d2 H4 e2 D4 => ?_⟩
        obtain ⟨x, _, hx⟩ := s_at (z := few) (d := d2) (by omega)
        walk_at "rd"
        refine r_ixS fs hx ?_
        walk_at "rd"
        refine r_app (D4.at nam (D3.at nam hm')) sm ?_
        walk_at "rd"
        exact put x H4 _ (D3.trans D4)
      · walk_at "rd"
        refine r_tyL (sqL (D3.at nam hm')) ?_
        walk_at "rd"
        refine ⟨a, 95, rfl, D3.st, by decide, fun d2 H4 e2 D4 => ?_⟩
        obtain ⟨x, _, hx⟩ := s_at (z := SG) (d := d2) (by rw [SG_len]; omega)
        walk_at "rd"
        refine r_ixS al hx ?_
        walk_at "rd"
        refine r_app (D4.at nam (D3.at nam hm')) sm ?_
        walk_at "rd"
        exact put x H4 _ (D3.trans D4)
    · obtain ⟨y1, ls, rfl, D, hm', hl⟩ := hP
      rw [Int.toNat_natCast] at hl
      walk_at "rd"
      refine ⟨⟨_, rfl⟩, ?_⟩
      walk_at "rd"
      refine r_joinSg hm' (by omega) fun o ho => q o H' D (by rw [← cs_len, ho]; exact hl)
end
end K18

namespace K18
open PySem PySem.Spec PyProof.Rows L2 Dk Q18
/-- one step of a reading -/
local macro_rules | `(tactic| walk_at "rd1") => `(tactic| first
  | ((with_reducible refine r_var (v := ?rv) ?rh ?_); (case rh => rfl))
  | with_reducible refine r_c ?_
  | with_reducible refine r_seq ?_
  | with_reducible refine r_asg ?_
  | with_reducible refine r_par ?_
  | with_reducible refine r_gname ?_
  | with_reducible refine r_op ?_
  | with_reducible refine r_forLo ?_
  | with_reducible refine r_forTo ?_
  | with_reducible refine r_forSo ?_
  | with_reducible refine r_forRo ?_
  | with_reducible refine r_forRvo ?_
  | with_reducible refine r_forZo ?_
  | with_reducible refine r_revS ?_
  | with_reducible refine r_lcRo ?_
  | with_reducible refine r_lcLo ?_
  | with_reducible refine r_yes ?_
  | with_reducible refine r_callK0 ?_
  | with_reducible refine r_break ?_
  | with_reducible refine r_continue ?_
  | with_reducible refine r_forR2o ?_
  | with_reducible refine r_forEo ?_
  | with_reducible refine r_forESo ?_
  | with_reducible refine r_xfo ?_
  | with_reducible refine r_noP ?_
  | with_reducible refine r_part ?_
  | with_reducible refine r_pI ?_
  | with_reducible refine r_gcons ?_
  | with_reducible refine r_gnil ?_
  | with_reducible refine r_mkO ?_
  | with_reducible refine r_un ?_
  | with_reducible refine r_addI ?_
  | with_reducible refine r_I0 ?_
  | with_reducible refine r_U ?_
  | with_reducible refine r_cons ?_
  | with_reducible refine r_nil ?_
  | with_reducible refine r_CB ?_
  | with_reducible refine r_call ?_
  | with_reducible refine r_callS ?_
  | with_reducible refine r_int ?_
  | with_reducible refine r_max ?_
  | with_reducible refine r_min ?_
  | with_reducible refine r_test ?_
  | with_reducible refine r_B ?_
  | with_reducible refine r_blv ?_
  | with_reducible refine r_and ?_
  | with_reducible refine r_or ?_
  | with_reducible refine r_not ?_
  | with_reducible refine r_andV ?_
  | with_reducible refine r_orV ?_
  | with_reducible refine r_notV ?_
  | with_reducible refine r_ifE ?_
  | with_reducible refine r_ifS ?_
  | with_reducible refine r_ret ?_
  | with_reducible refine r_retN ?_
  | with_reducible refine r_drop ?_
  | with_reducible refine r_next ?_
  | with_reducible refine r_sl ?_
  | with_reducible refine r_gsub ?_
  | with_reducible refine r_bm ?_
  | with_reducible refine r_bm0 ?_
  | with_reducible refine r_tup ?_
  | with_reducible refine r_lst ?_
  | with_reducible refine r_isN ?_
  | with_reducible refine r_notN ?_
  | with_reducible refine r_chain ?_
  | with_reducible refine r_callK ?_
  | with_reducible refine r_isB ?_
  | with_reducible refine r_lcEio ?_
  | with_reducible refine r_forEi ?_
  | with_reducible refine r_lcTo ?_
  | with_reducible refine r_lcSo ?_
  | with_reducible refine r_m1 ?_
  | with_reducible refine r_dget ?_
  | with_reducible refine r_din ?_
  | with_reducible refine r_dnotin ?_
  | with_reducible refine r_starC ?_
  | with_reducible refine r_callKS ?_
  | with_reducible refine r_itt ?_
  | with_reducible refine r_iff ?_
  | with_reducible refine r_ittN ?_
  | with_reducible refine r_iffN ?_
  | ((with_reducible refine r_ittD ?rh ?_); (case rh => rfl))
  | ((with_reducible refine r_iffD ?rh ?_); (case rh => rfl))
  | ((with_reducible refine r_modP ?rh ?_); (case rh => decide))
  | ((with_reducible refine r_eq ?rh ?_); (case rh => rfl))
  | ((with_reducible refine r_eqP ?rh ?_); (case rh => rfl))
  | ((with_reducible refine r_ne ?rh ?_); (case rh => rfl)))
local macro_rules | `(tactic| walk_at "rd") => `(tactic| repeat walk_at "rd1")
local macro_rules | `(tactic| walk_at "isi") => `(tactic| first | refine r_isi (b := true) (by assumption) (by decide +kernel) ?_ | refine r_isi (b := false) (by assumption) (by decide +kernel) ?_)
local macro_rules | `(tactic| walk_at "rs1") => `(tactic| first
  | with_reducible refine r_seq ?_
  | with_reducible refine r_asg ?_
  | with_reducible refine r_gname ?_
  | with_reducible refine r_ret ?_)
local macro_rules | `(tactic| walk_at "rs") => `(tactic| repeat walk_at "rs1")

abbrev xAt (k : Nat) : HO := .xd [(("at" : Str), V.int (k : Nat))]
def DG : Str := "0123456789"
theorem sm_mem (c : Nat) : (c ∈ SM.cps.toList) ↔ smc c = true := by
  rw [show SM.cps.toList = List.range' 97 26 by decide +kernel, List.mem_range'_1]
  unfold smc
  simp
  omega
theorem dg_mem (c : Nat) : (c ∈ DG.cps.toList) ↔ dgc c = true := by
  rw [show DG.cps.toList = List.range' 48 10 by decide +kernel, List.mem_range'_1]
  unfold dgc
  simp
  omega
theorem tlS {c d : Nat} : ((⟨#[c]⟩ : Str) = ⟨#[d]⟩) ↔ c = d := ⟨fun h => by injection h with h; injection h with h; injection h, fun h => by rw [h]⟩
theorem feedS' : Str.ofString "\n" = ⟨#[10]⟩ := by decide +kernel
theorem blankS : Str.ofString " " = ⟨#[32]⟩ := by decide +kernel
theorem quoteS : Str.ofString "\"" = ⟨#[34]⟩ := by decide +kernel
theorem backS : Str.ofString "\\" = ⟨#[92]⟩ := by decide +kernel
theorem nS : Str.ofString "n" = ⟨#[110]⟩ := by decide +kernel
theorem zeroS : Str.ofString "0" = ⟨#[48]⟩ := by decide +kernel
def T2 (H : Hp) (x v : V) (e : Nat) : Prop := ∃ p, x = .ref p ∧ H p = some (.tup [v, .int (e : Nat)])
def T3 (H : Hp) (x : V) (t : Str) (v : V) (e : Nat) : Prop := ∃ p q, x = .ref p ∧ H p = some (.tup [.ref q, .int (e : Nat)]) ∧ H q = some (.tup [.str t, v])
def escR (z : Str) (k : Nat) : Nat ⊕ Nat := match (cs z)[k]? with
  | none => .inl k
  | some c => if c = 110 then .inr 10 else if c = 92 ∨ c = 34 then .inr c else .inl k
def spSignAt (C : Addr) : Sp := fun vs H Q E => ∃ (z : Str) (k : Nat), vs = [.str z, .int (k : Nat)] ∧ k ≤ z.length ∧ z.length ≤ 6000 ∧ (∀ c, (cs z)[k]? = some c → Q (.str ⟨#[c]⟩) H) ∧ ((cs z)[k]? = none → ∀ H' d, Ex H H' → H d = none → H' d = some (xAt k) → E (.ref C) (some d) H')
def spEsc (C : Addr) : Sp := fun vs H Q E => ∃ (z : Str) (k : Nat), vs = [.str z, .int (k : Nat)] ∧ k ≤ z.length ∧ z.length ≤ 6000 ∧ (∀ c, escR z k = .inr c → Q (.str ⟨#[c]⟩) H) ∧ (∀ p, escR z k = .inl p → ∀ H' d, Ex H H' → H d = none → H' d = some (xAt p) → E (.ref C) (some d) H')
def spF (F : Str → Nat → Res) (C : Addr) : Sp := fun vs H Q E => ∃ (z : Str) (k : Nat), vs = [.str z, .int (k : Nat)] ∧ k ≤ z.length ∧ z.length ≤ 6000 ∧ (∀ t v e, F z k = .ok t v e → ∀ x H', Ex H H' → T2 H' x v e → Q x H') ∧
  (∀ p, F z k = .bad p → ∀ H' d, Ex H H' → H d = none → H' d = some (xAt p) → E (.ref C) (some d) H')
theorem none_at {z : Str} {k : Nat} (h : z.length ≤ k) : (cs z)[k]? = none := List.getElem?_eq_none (by rw [cs_len]; exact h)
section
variable {P : Program} {w : World} {K : PySem.W.Frag} {mg : Str → Option Value} {base : Heap}
theorem ok_init_BadLine (T : Txt K mg) : FnOk P w K mg base CX0 1 T.ai_BadLine T.d_BadLine ["self", "at"] (spInit1 T.c_BadLine "at") := by
  refine T.F_BadLine.ok sc_init_BadLine (fun vs H Q E h => ?_) (fun cdv A outer s H vs Q E hr h => ?_)
  · obtain ⟨a, v, rfl, _⟩ := h
    rfl
  · obtain ⟨a, v, rfl, ha, q⟩ := h
    refine ⟨_, pss_one (ps_ost (pv 0) (pv 1)), ?_⟩
    exact ⟨v, rfl, .ref a, rfl, a, T.c_BadLine, rfl, T.o_BadLine, T.na_BadLine_at, .inl ⟨ha, fun dx n1 n2 => q dx n1 n2⟩⟩
theorem ok_sign_at (T : Txt K mg) : FnOk P w K mg base (L2.CX P w) 3 T.a_sign_at T.d_sign_at ["line", "at"] (spSignAt T.c_BadLine) := by
  refine T.F_sign_at.okX sc_sign_at (fun vs H Q E h => ?_) (fun cdv A outer s H vs Q E hr h => ?_)
  · obtain ⟨z, k, rfl, _⟩ := h
    rfl
  · obtain ⟨z, k, rfl, hk, hz, q, qE⟩ := h
    refine ⟨_, (pss_cons (ps_if (pt_cmpR op_ge (pv 1) (pe_callB call_lenU (by rfl) T.n_len (by decide +kernel) (pa_cons (pv 0) pa_nil)) (nomark _)) (pss_one (ps_raise rfl (takes_of rfl rfl rfl rfl) (pmk_oex T.o_BadLine T.i_BadLine T.ti_BadLine (ok_init_BadLine T) hr T.b_BadLine .nil pass0 (by rfl) T.g_BadLine (pa_cons (pe_callB call_lenU (by rfl) T.n_len (by decide +kernel) (pa_cons (pv 0) pa_nil)) pa_nil)))) pss_nil)
        (pss_one (ps_ret (pe_ix ix_seq (pv 0) (pv 1) (fun _ _ => rfl))))), ?_⟩
    have zl : z.length ≤ sizeLine := by rw [sizeLine_eq]; omega
    walk_at "rd"
    refine r_lenS zl ?_
    walk_at "rd"
    refine r_ite (fun c => ?_) (fun c => ?_)
    · walk_at "rd"
      refine r_lenS zl ?_
      walk_at "rd"
      exact r_raise1 fun d hd => qE (none_at (by omega)) _ d (Same.new (Same.refl _) hd) hd (by rw [upd_same, show k = z.length by omega])
    · obtain ⟨c, hc, ha⟩ := s_at (z := z) (d := k) (by omega)
      walk_at "rd"
      exact r_ixS zl ha (q c hc)
theorem ok_escaped (T : Txt K mg) : FnOk P w K mg base (L2.CX P w) 4 T.a_escaped T.d_escaped ["line", "at"] (spEsc T.c_BadLine) := by
  refine T.F_escaped.okX sc_escaped (fun vs H Q E h => ?_) (fun cdv A outer s H vs Q E hr h => ?_)
  · obtain ⟨z, k, rfl, _⟩ := h
    rfl
  · obtain ⟨z, k, rfl, hk, hz, q, qE⟩ := h
    refine ⟨_, (pss_cons (ps_set (i := 2) sc_escaped.nd rfl (Or.inl rfl) (pe_call (ok_sign_at T) hr (by rfl) T.g_sign_at T.F_sign_at.kp T.b_sign_at .nil (passes_call (takes_of rfl rfl rfl rfl) (fun _ _ _ _ h => h)) (pa_cons (pv 0) (pa_cons (pv 1) pa_nil))))
        (pss_cons (ps_if (pt_cmpR (op_eqU hr.units) (pv 2) pe_str (nomark _)) (pss_one (ps_ret pe_str)) pss_nil)
        (pss_cons (ps_if (PW.pt (pw_or (pt_cmpR (op_eqU hr.units) (pv 2) pe_str (nomark _)) (pw_or1 (pt_cmpR (op_eqU hr.units) (pv 2) pe_str (nomark _))))) (pss_one (ps_ret (pv 2))) pss_nil)
        (pss_one (ps_raise rfl (takes_of rfl rfl rfl rfl) (pmk_oex T.o_BadLine T.i_BadLine T.ti_BadLine (ok_init_BadLine T) (hr.mono (by decide)) T.b_BadLine .nil pass0 (by rfl) T.g_BadLine (pa_cons (pv 1) pa_nil))))))), ?_⟩
    walk_at "rd"
    refine ⟨z, k, rfl, hk, hz, fun c hc => ?_, fun hc H' d e hd hd' => qE k (by unfold escR; rw [hc]) H' d e hd hd'⟩
    walk_at "rd"
    unfold escR at q qE
    rw [hc] at q qE
    dsimp only at q qE
    refine r_ite (fun h => ?_) (fun h => ?_)
    · have h : c = 110 := by
        have h := V.str.inj h
        rw [nS, tlS] at h
        exact h
      rw [if_pos h] at q
      walk_at "rd"
      rw [feedS']
      exact q 10 rfl
    · have h : ¬ c = 110 := fun e => h (by rw [nS, e])
      rw [if_neg h] at q qE
      walk_at "rd"
      refine r_ite (fun h2 => ?_) (fun h2 => ?_)
      · have h2 : c = 92 := by
          have h := V.str.inj h2
          rw [backS, tlS] at h
          exact h
        rw [if_pos (.inl h2)] at q
        walk_at "rd"
        exact q c rfl
      · have h2 : ¬ c = 92 := fun e => h2 (by rw [backS, e])
        walk_at "rd"
        refine r_ite (fun h3 => ?_) (fun h3 => ?_)
        · have h3 : c = 34 := by
            have h := V.str.inj h3
            rw [quoteS, tlS] at h
            exact h
          rw [if_pos (.inr h3)] at q
          walk_at "rd"
          exact q c rfl
        · have h3 : ¬ c = 34 := fun e => h3 (by rw [quoteS, e])
          rw [if_neg (fun g => g.elim h2 h3)] at qE
          walk_at "rd"
          exact r_raise1 fun d hd => qE k rfl _ d (Same.new (Same.refl _) hd) hd upd_same
theorem ok_name_at (T : Txt K mg) : FnOk P w K mg base (L2.CX P w) 4 T.a_name_at T.d_name_at ["line", "at"] (spF nameR T.c_BadLine) := by
  refine T.F_name_at.okX sc_name_at (fun vs H Q E h => ?_) (fun cdv A outer s H vs Q E hr h => ?_)
  · obtain ⟨z, k, rfl, _⟩ := h
    rfl
  · obtain ⟨z, k, rfl, hk, hz, q, qE⟩ := h
    refine ⟨_, (pss_cons (ps_if (pt_cmpR op_notInU (pe_call (ok_sign_at T) hr (by rfl) T.g_sign_at T.F_sign_at.kp T.b_sign_at .nil (passes_call (takes_of rfl rfl rfl rfl) (fun _ _ _ _ h => h)) (pa_cons (pv 0) (pa_cons (pv 1) pa_nil))) (pe_glob (v := .str "abcdefghijklmnopqrstuvwxyz") rfl T.g_SMALL_LETTERS ⟨_, rfl⟩) (by rfl)) (pss_one (ps_raise rfl (takes_of rfl rfl rfl rfl) (pmk_oex T.o_BadLine T.i_BadLine T.ti_BadLine (ok_init_BadLine T) (hr.mono (by decide)) T.b_BadLine .nil pass0 (by rfl) T.g_BadLine (pa_cons (pv 1) pa_nil)))) pss_nil)
        (pss_cons (ps_set (i := 2) sc_name_at.nd rfl (Or.inl rfl) (pe_op op_addU (pv 1) pe_int))
        (Evl.pss_cut (ps_while (passes_of rfl) (PW.pt (pw_and (pt_cmpR op_lt (pv 2) (pe_callB call_lenU (by rfl) T.n_len (by decide +kernel) (pa_cons (pv 0) pa_nil)) (nomark _)) (pw_and1 (PW.pt (pw_or (pt_cmpR op_inU (pe_ix ix_seq (pv 0) (pv 2) (fun _ _ => rfl)) (pe_glob (v := .str "abcdefghijklmnopqrstuvwxyz") rfl T.g_SMALL_LETTERS ⟨_, rfl⟩) (by rfl)) (pw_or1 (pt_cmpR op_inU (pe_ix ix_seq (pv 0) (pv 2) (fun _ _ => rfl)) (pe_glob (v := .str "0123456789") rfl T.g_DIGITS ⟨_, rfl⟩) (by rfl)))))))) (pss_one (ps_aug (i := 2) sc_name_at.nd rfl (Or.inl rfl) pe_int ip_add)))
        (pss_cons (ps_if (pt_cmpR op_gt (pe_op op_sub (pv 2) (pv 1)) (pe_glob (v := .int 12) rfl T.g_LONGEST_NAME ⟨_, rfl⟩) (nomark _)) (pss_one (ps_raise rfl (takes_of rfl rfl rfl rfl) (pmk_oex T.o_BadLine T.i_BadLine T.ti_BadLine (ok_init_BadLine T) (hr.mono (by decide)) T.b_BadLine .nil pass0 (by rfl) T.g_BadLine (pa_cons (pe_op op_addU (pv 1) (pe_glob (v := .int 12) rfl T.g_LONGEST_NAME ⟨_, rfl⟩)) pa_nil)))) pss_nil)
        (pss_one (ps_ret (pe_tup (pa_cons (pe_slice sl_U (pv 0) (po_some (pv 1)) (po_some (pv 2))) (pa_cons (pv 2) pa_nil))))))))), ?_⟩
    have zl : z.length ≤ sizeLine := by rw [sizeLine_eq]; omega
    walk_at "rd"
    unfold nameR at q qE
    refine ⟨z, k, rfl, hk, hz, fun c hc => ?_, fun hc H' d e hd hd' => qE k (by rw [hc]) H' d e hd hd'⟩
    rw [hc] at q qE
    dsimp only at q qE
    have hkl : k < z.length := by rw [← cs_len]; exact (List.getElem?_eq_some_iff.mp hc).1
    walk_at "rd"
    refine r_niS ?_
    walk_at "rd"
    refine r_iteN (fun h => ?_) (fun h => ?_)
    · have h : ¬ smc c = true := fun e => h ((sm_mem c).mpr e)
      rw [if_neg h] at qE
      walk_at "rd"
      exact r_raise1 fun d hd => qE k rfl _ d (Same.new (Same.refl _) hd) hd upd_same
    · have h : smc c = true := (sm_mem c).mp h
      rw [if_pos h] at q qE
      walk_at "rd"
      have rle := run_le (f := nmc) (l := cs z) (k := k + 1) (by rw [cs_len]; exact hkl)
      have rge := run_ge nmc (cs z) (k + 1)
      rw [cs_len] at rle
      refine ⟨fun σ' H' => σ' = [some (.str z), some (.int (k : Nat)), some (.int (runE nmc (cs z) (k + 1) : Nat))] ∧ H' = H, ?_, ?_⟩
      · walk_at "rd"
        refine ⟨fun m σ H' => ∃ n : Nat, σ = [some (.str z), some (.int (k : Nat)), some (.int (n : Nat))] ∧ H' = H ∧ k + 1 ≤ n ∧ n ≤ z.length ∧ (∀ i c, k + 1 ≤ i → i < n → (cs z)[i]? = some c → nmc c = true) ∧ m = z.length - n, ⟨_, k + 1, rfl, rfl, Nat.le_refl _, hkl, fun i c h1 h2 => absurd h2 (by omega), rfl⟩, fun m σ H' hP => ?_⟩
        obtain ⟨n, rfl, rfl, h1, h2, h3, rfl⟩ := hP
        have fin : (∀ c, (cs z)[n]? = some c → nmc c = false) → runE nmc (cs z) (k + 1) = n := fun off => run_eq h1 (by rw [cs_len]; exact h2) h3 off
        walk_at "rd"
        refine r_lenS zl ?_
        walk_at "rd"
        refine r_ite (fun c1 => ?_) (fun c1 => ?_)
        · have hn : n < (cs z).length := by rw [cs_len]; omega
          obtain ⟨d, hd⟩ : ∃ d, (cs z)[n]? = some d := ⟨_, List.getElem?_eq_getElem hn⟩
          have more : nmc d = true → ∀ i c, k + 1 ≤ i → i < n + 1 → (cs z)[i]? = some c → nmc c = true := fun hd' i c g1 g2 g3 => by
            rcases Nat.lt_or_ge i n with g | g
            · exact h3 i c g1 g g3
            · rw [show i = n by omega, hd] at g3
              cases g3
              exact hd'
          walk_at "rd"
          refine r_ixS zl (atI_nat hd) ?_
          walk_at "rd"
          refine r_inS ?_
          walk_at "rd"
          refine r_ite (fun g1 => ?_) (fun g1 => ?_)
          · have g1 : smc d = true := (sm_mem d).mp g1
            walk_at "rd"
            refine ⟨fun σ' H2 => ∃ m', m' < z.length - n ∧ ∃ n : Nat, σ' = [some (.str z), some (.int (k : Nat)), some (.int (n : Nat))] ∧ H2 = H' ∧ k + 1 ≤ n ∧ n ≤ z.length ∧ (∀ i c, k + 1 ≤ i → i < n → (cs z)[i]? = some c → nmc c = true) ∧ m' = z.length - n, fun σ' H2 h => h, ?_⟩
            walk_at "rd"
            refine ⟨_, rfl, ?_⟩
            walk_at "rd"
            refine ⟨_, _, rfl, rfl, ?_⟩
            exact ⟨z.length - (n + 1), by omega, n + 1, rfl, rfl, by omega, by omega, more (by unfold nmc; rw [g1]; first | rfl | exact Bool.or_true _), rfl⟩
          · have g1 : smc d = false := by
              cases e : smc d with
              | false => rfl
              | true => exact absurd ((sm_mem d).mpr e) g1
            walk_at "rd"
            refine r_ixS zl (atI_nat hd) ?_
            walk_at "rd"
            refine r_inS ?_
            walk_at "rd"
            refine r_ite (fun g2 => ?_) (fun g2 => ?_)
            · have g2 : dgc d = true := (dg_mem d).mp g2
              walk_at "rd"
              refine ⟨fun σ' H2 => ∃ m', m' < z.length - n ∧ ∃ n : Nat, σ' = [some (.str z), some (.int (k : Nat)), some (.int (n : Nat))] ∧ H2 = H' ∧ k + 1 ≤ n ∧ n ≤ z.length ∧ (∀ i c, k + 1 ≤ i → i < n → (cs z)[i]? = some c → nmc c = true) ∧ m' = z.length - n, fun σ' H2 h => h, ?_⟩
              walk_at "rd"
              refine ⟨_, rfl, ?_⟩
              walk_at "rd"
              refine ⟨_, _, rfl, rfl, ?_⟩
              exact ⟨z.length - (n + 1), by omega, n + 1, rfl, rfl, by omega, by omega, more (by unfold nmc; rw [g1, g2]; first | rfl | exact Bool.or_true _), rfl⟩
            · have g2 : dgc d = false := by
                cases e : dgc d with
                | false => rfl
                | true => exact absurd ((dg_mem d).mpr e) g2
              walk_at "rd"
              exact ⟨by rw [fin fun c hc => by rw [hd] at hc; cases hc; unfold nmc; rw [g1, g2]; rfl], rfl⟩
        · walk_at "rd"
          exact ⟨by rw [fin fun c hc => absurd (List.getElem?_eq_some_iff.mp hc).1 (by rw [cs_len]; omega)], rfl⟩
      · rintro σ' H' ⟨rfl, rfl⟩
        walk_at "rd"
        refine r_ite (fun c1 => ?_) (fun c1 => ?_)
        · rw [if_pos (show runE nmc (cs z) (k + 1) - k > 12 by omega)] at qE
          walk_at "rd"
          exact r_raise1 fun d hd => qE (k + 12) rfl _ d (Same.new (Same.refl _) hd) hd upd_same
        · rw [if_neg (show ¬ runE nmc (cs z) (k + 1) - k > 12 by omega)] at q
          walk_at "rd"
          refine r_slS zl ?_
          walk_at "rd"
          refine r_small nsz fun p hp => ?_
          exact q _ _ _ rfl _ _ (Same.new (Same.refl _) hp) ⟨p, rfl, upd_same⟩
theorem ok_number_at (T : Txt K mg) : FnOk P w K mg base (L2.CX P w) 4 T.a_number_at T.d_number_at ["line", "at"] (spF numR T.c_BadLine) := by
  refine T.F_number_at.okX sc_number_at (fun vs H Q E h => ?_) (fun cdv A outer s H vs Q E hr h => ?_)
  · obtain ⟨z, k, rfl, _⟩ := h
    rfl
  · obtain ⟨z, k, rfl, hk, hz, q, qE⟩ := h
    refine ⟨_, (pss_cons (ps_if (pt_cmpR op_notInU (pe_call (ok_sign_at T) hr (by rfl) T.g_sign_at T.F_sign_at.kp T.b_sign_at .nil (passes_call (takes_of rfl rfl rfl rfl) (fun _ _ _ _ h => h)) (pa_cons (pv 0) (pa_cons (pv 1) pa_nil))) (pe_glob (v := .str "0123456789") rfl T.g_DIGITS ⟨_, rfl⟩) (by rfl)) (pss_one (ps_raise rfl (takes_of rfl rfl rfl rfl) (pmk_oex T.o_BadLine T.i_BadLine T.ti_BadLine (ok_init_BadLine T) (hr.mono (by decide)) T.b_BadLine .nil pass0 (by rfl) T.g_BadLine (pa_cons (pv 1) pa_nil)))) pss_nil)
        (pss_cons (ps_set (i := 2) sc_number_at.nd rfl (Or.inl rfl) (pe_op op_addU (pv 1) pe_int))
        (Evl.pss_cut (ps_if (pt_cmpR (op_neU hr.units) (pe_ix ix_seq (pv 0) (pv 1) (fun _ _ => rfl)) pe_str (nomark _)) (pss_one (ps_while (passes_of rfl) (PW.pt (pw_and (pt_cmpR op_lt (pv 2) (pe_callB call_lenU (by rfl) T.n_len (by decide +kernel) (pa_cons (pv 0) pa_nil)) (nomark _)) (pw_and (pt_cmpR op_lt (pv 2) (pe_op op_addU (pv 1) (pe_glob (v := .int 9) rfl T.g_MOST_DIGITS ⟨_, rfl⟩)) (nomark _)) (pw_and1 (pt_cmpR op_inU (pe_ix ix_seq (pv 0) (pv 2) (fun _ _ => rfl)) (pe_glob (v := .str "0123456789") rfl T.g_DIGITS ⟨_, rfl⟩) (by rfl)))))) (pss_one (ps_aug (i := 2) sc_number_at.nd rfl (Or.inl rfl) pe_int ip_add)))) pss_nil)
        (pss_one (ps_ret (pe_tup (pa_cons (pe_callTy call_int_str (by rfl) T.n_int (by decide +kernel) (pa_cons (pe_slice sl_U (pv 0) (po_some (pv 1)) (po_some (pv 2))) pa_nil)) (pa_cons (pv 2) pa_nil)))))))), ?_⟩
    have zl : z.length ≤ sizeLine := by rw [sizeLine_eq]; omega
    walk_at "rd"
    unfold numR at q qE
    refine ⟨z, k, rfl, hk, hz, fun c hc => ?_, fun hc H' d e hd hd' => qE k (by rw [hc]) H' d e hd hd'⟩
    rw [hc] at q qE
    dsimp only at q qE
    have hkl : k < z.length := by rw [← cs_len]; exact (List.getElem?_eq_some_iff.mp hc).1
    walk_at "rd"
    refine r_niS ?_
    walk_at "rd"
    refine r_iteN (fun h => ?_) (fun h => ?_)
    · have h : ¬ dgc c = true := fun e => h ((dg_mem c).mpr e)
      rw [if_neg h] at qE
      walk_at "rd"
      exact r_raise1 fun d hd => qE k rfl _ d (Same.new (Same.refl _) hd) hd upd_same
    · have h : dgc c = true := (dg_mem c).mp h
      rw [if_pos h] at q qE
      walk_at "rd"
      refine ⟨fun σ' H' => σ' = [some (.str z), some (.int (k : Nat)), some (.int (numE z k : Nat))] ∧ H' = H, ?_, ?_⟩
      · walk_at "rd"
        refine r_ixS zl (atI_nat hc) ?_
        walk_at "rd"
        refine r_iteN (fun c0 => ?_) (fun c0 => ?_)
        · have c0 : c ≠ 48 := fun e => c0 (by rw [zeroS, e])
          have en : numE z k = min (runE dgc (cs z) (k + 1)) (k + 9) := by
            unfold numE
            rw [hc, if_neg (fun e => c0 (Option.some.inj e))]
          walk_at "rd"
          refine ⟨fun m σ H' => ∃ n : Nat, σ = [some (.str z), some (.int (k : Nat)), some (.int (n : Nat))] ∧ H' = H ∧ k + 1 ≤ n ∧ n ≤ z.length ∧ n ≤ k + 9 ∧ (∀ i c, k + 1 ≤ i → i < n → (cs z)[i]? = some c → dgc c = true) ∧ m = z.length - n, ⟨_, k + 1, rfl, rfl, Nat.le_refl _, hkl, by omega, fun i c h1 h2 => absurd h2 (by omega), rfl⟩, fun m σ H' hP => ?_⟩
          obtain ⟨n, rfl, rfl, h1, h2, h9, h3, rfl⟩ := hP
          have lo : n ≤ runE dgc (cs z) (k + 1) := by
            rcases Nat.lt_or_ge (runE dgc (cs z) (k + 1)) n with g | g
            · have hl : runE dgc (cs z) (k + 1) < (cs z).length := by rw [cs_len]; omega
              have a := run_off (f := dgc) (k := k + 1) (List.getElem?_eq_getElem hl)
              have b := h3 _ _ (run_ge dgc (cs z) (k + 1)) g (List.getElem?_eq_getElem hl)
              rw [a] at b
              cases b
            · exact g
          have fin : (n < k + 9 → ∀ c, (cs z)[n]? = some c → dgc c = false) → numE z k = n := fun off => by
            rw [en]
            rcases Nat.lt_or_ge n (k + 9) with g | g
            · rw [run_eq h1 (by rw [cs_len]; exact h2) h3 (off g)]
              omega
            · omega
          walk_at "rd"
          refine r_lenS zl ?_
          walk_at "rd"
          refine r_ite (fun c1 => ?_) (fun c1 => ?_)
          · have hn : n < (cs z).length := by rw [cs_len]; omega
            obtain ⟨d, hd⟩ : ∃ d, (cs z)[n]? = some d := ⟨_, List.getElem?_eq_getElem hn⟩
            walk_at "rd"
            refine r_ite (fun c2 => ?_) (fun c2 => ?_)
            · walk_at "rd"
              refine r_ixS zl (atI_nat hd) ?_
              walk_at "rd"
              refine r_inS ?_
              walk_at "rd"
              refine r_ite (fun g2 => ?_) (fun g2 => ?_)
              · have g2 : dgc d = true := (dg_mem d).mp g2
                walk_at "rd"
                refine ⟨fun σ' H2 => ∃ m', m' < z.length - n ∧ ∃ n : Nat, σ' = [some (.str z), some (.int (k : Nat)), some (.int (n : Nat))] ∧ H2 = H' ∧ k + 1 ≤ n ∧ n ≤ z.length ∧ n ≤ k + 9 ∧ (∀ i c, k + 1 ≤ i → i < n → (cs z)[i]? = some c → dgc c = true) ∧ m' = z.length - n, fun σ' H2 h => h, ?_⟩
                walk_at "rd"
                refine ⟨_, rfl, ?_⟩
                walk_at "rd"
                refine ⟨_, _, rfl, rfl, ?_⟩
                refine ⟨z.length - (n + 1), by omega, n + 1, rfl, rfl, by omega, by omega, by omega, fun i c e1 e2 e3 => ?_, rfl⟩
                rcases Nat.lt_or_ge i n with g | g
                · exact h3 i c e1 g e3
                · rw [show i = n by omega, hd] at e3
                  cases e3
                  exact g2
              · have g2 : dgc d = false := by
                  cases e : dgc d with
                  | false => rfl
                  | true => exact absurd ((dg_mem d).mpr e) g2
                walk_at "rd"
                exact ⟨by rw [fin fun _ c hc => by rw [hd] at hc; cases hc; exact g2], rfl⟩
            · walk_at "rd"
              exact ⟨by rw [fin fun g => absurd g (by omega)], rfl⟩
          · walk_at "rd"
            exact ⟨by rw [fin fun _ c hc => absurd (List.getElem?_eq_some_iff.mp hc).1 (by rw [cs_len]; omega)], rfl⟩
        · have c0 : c = 48 := by
            have h := V.str.inj c0
            rw [zeroS, tlS] at h
            exact h
          have en : numE z k = k + 1 := by
            unfold numE
            rw [hc, c0, if_pos rfl]
          walk_at "rd"
          exact ⟨by rw [en]; rfl, rfl⟩
      · rintro σ' H' ⟨rfl, rfl⟩
        walk_at "rd"
        refine r_slS zl ?_
        walk_at "rd"
        obtain ⟨i1, i2⟩ := num_text hc h
        refine ⟨cut z k (numE z k), _, rfl, i1, i2, ?_⟩
        walk_at "rd"
        refine r_small nsz fun p hp => ?_
        exact q _ _ _ rfl _ _ (Same.new (Same.refl _) hp) ⟨p, rfl, upd_same⟩
end
end K18

namespace K18
open PySem PySem.Spec PyProof.Rows L2 Dk Q18
/-- one step of a reading -/
local macro_rules | `(tactic| walk_at "rd1") => `(tactic| first
  | ((with_reducible refine r_var (v := ?rv) ?rh ?_); (case rh => rfl))
  | with_reducible refine r_c ?_
  | with_reducible refine r_seq ?_
  | with_reducible refine r_asg ?_
  | with_reducible refine r_par ?_
  | with_reducible refine r_gname ?_
  | with_reducible refine r_op ?_
  | with_reducible refine r_forLo ?_
  | with_reducible refine r_forTo ?_
  | with_reducible refine r_forSo ?_
  | with_reducible refine r_forRo ?_
  | with_reducible refine r_forRvo ?_
  | with_reducible refine r_forZo ?_
  | with_reducible refine r_revS ?_
  | with_reducible refine r_lcRo ?_
  | with_reducible refine r_lcLo ?_
  | with_reducible refine r_yes ?_
  | with_reducible refine r_callK0 ?_
  | with_reducible refine r_break ?_
  | with_reducible refine r_continue ?_
  | with_reducible refine r_forR2o ?_
  | with_reducible refine r_forEo ?_
  | with_reducible refine r_forESo ?_
  | with_reducible refine r_xfo ?_
  | with_reducible refine r_noP ?_
  | with_reducible refine r_part ?_
  | with_reducible refine r_pI ?_
  | with_reducible refine r_gcons ?_
  | with_reducible refine r_gnil ?_
  | with_reducible refine r_mkO ?_
  | with_reducible refine r_un ?_
  | with_reducible refine r_addI ?_
  | with_reducible refine r_I0 ?_
  | with_reducible refine r_U ?_
  | with_reducible refine r_cons ?_
  | with_reducible refine r_nil ?_
  | with_reducible refine r_CB ?_
  | with_reducible refine r_call ?_
  | with_reducible refine r_callS ?_
  | with_reducible refine r_int ?_
  | with_reducible refine r_max ?_
  | with_reducible refine r_min ?_
  | with_reducible refine r_test ?_
  | with_reducible refine r_B ?_
  | with_reducible refine r_blv ?_
  | with_reducible refine r_and ?_
  | with_reducible refine r_or ?_
  | with_reducible refine r_not ?_
  | with_reducible refine r_andV ?_
  | with_reducible refine r_orV ?_
  | with_reducible refine r_notV ?_
  | with_reducible refine r_ifE ?_
  | with_reducible refine r_ifS ?_
  | with_reducible refine r_ret ?_
  | with_reducible refine r_retN ?_
  | with_reducible refine r_drop ?_
  | with_reducible refine r_next ?_
  | with_reducible refine r_sl ?_
  | with_reducible refine r_gsub ?_
  | with_reducible refine r_bm ?_
  | with_reducible refine r_bm0 ?_
  | with_reducible refine r_tup ?_
  | with_reducible refine r_lst ?_
  | with_reducible refine r_isN ?_
  | with_reducible refine r_notN ?_
  | with_reducible refine r_chain ?_
  | with_reducible refine r_callK ?_
  | with_reducible refine r_isB ?_
  | with_reducible refine r_lcEio ?_
  | with_reducible refine r_forEi ?_
  | with_reducible refine r_lcTo ?_
  | with_reducible refine r_lcSo ?_
  | with_reducible refine r_m1 ?_
  | with_reducible refine r_dget ?_
  | with_reducible refine r_din ?_
  | with_reducible refine r_dnotin ?_
  | with_reducible refine r_starC ?_
  | with_reducible refine r_callKS ?_
  | with_reducible refine r_itt ?_
  | with_reducible refine r_iff ?_
  | with_reducible refine r_ittN ?_
  | with_reducible refine r_iffN ?_
  | ((with_reducible refine r_ittD ?rh ?_); (case rh => rfl))
  | ((with_reducible refine r_iffD ?rh ?_); (case rh => rfl))
  | ((with_reducible refine r_modP ?rh ?_); (case rh => decide))
  | ((with_reducible refine r_eq ?rh ?_); (case rh => rfl))
  | ((with_reducible refine r_eqP ?rh ?_); (case rh => rfl))
  | ((with_reducible refine r_ne ?rh ?_); (case rh => rfl)))
local macro_rules | `(tactic| walk_at "rd") => `(tactic| repeat walk_at "rd1")
local macro_rules | `(tactic| walk_at "isi") => `(tactic| first | refine r_isi (b := true) (by assumption) (by decide +kernel) ?_ | refine r_isi (b := false) (by assumption) (by decide +kernel) ?_)
local macro_rules | `(tactic| walk_at "rs1") => `(tactic| first
  | with_reducible refine r_seq ?_
  | with_reducible refine r_asg ?_
  | with_reducible refine r_gname ?_
  | with_reducible refine r_ret ?_)
local macro_rules | `(tactic| walk_at "rs") => `(tactic| repeat walk_at "rs1")

theorem drop_at {l : List Nat} {p c : Nat} (h : l[p]? = some c) : l.drop p = c :: l.drop (p + 1) := by
  obtain ⟨hp, rfl⟩ := List.getElem?_eq_some_iff.mp h
  exact List.drop_eq_getElem_cons hp
theorem drop_none {l : List Nat} {p : Nat} (h : l[p]? = none) : l.drop p = [] := List.drop_eq_nil_of_le (List.getElem?_eq_none_iff.mp h)
abbrev sgL (ls : List Nat) : HO := .lst ((ls.map fun c => (⟨#[c]⟩ : Str)).map V.str)
def spWord (C : Addr) : Sp := fun vs H Q E => ∃ (z : Str) (k : Nat), vs = [.str z, .int (k : Nat)] ∧ k ≤ z.length ∧ z.length ≤ 6000 ∧ (∀ t v e, wordR z k = .ok t v e → ∀ x H', Ex H H' → T3 H' x t v e → Q x H') ∧
  (∀ p, wordR z k = .bad p → ∀ H' d, Ex H H' → H d = none → H' d = some (xAt p) → E (.ref C) (some d) H')
section
variable {P : Program} {w : World} {K : PySem.W.Frag} {mg : Str → Option Value} {base : Heap}
theorem ok_unquote (T : Txt K mg) : FnOk P w K mg base (L2.CX P w) 5 T.a_unquote T.d_unquote ["line", "at"] (spF textR T.c_BadLine) := by
  refine T.F_unquote.okX sc_unquote (fun vs H Q E h => ?_) (fun cdv A outer s H vs Q E hr h => ?_)
  · obtain ⟨z, k, rfl, _⟩ := h
    rfl
  · obtain ⟨z, k, rfl, hk, hz, q, qE⟩ := h
    refine ⟨_, (pss_cons (ps_if (pt_cmpR (op_neU hr.units) (pe_call (ok_sign_at T) (hr.mono (by decide)) (by rfl) T.g_sign_at T.F_sign_at.kp T.b_sign_at .nil (passes_call (takes_of rfl rfl rfl rfl) (fun _ _ _ _ h => h)) (pa_cons (pv 0) (pa_cons (pv 1) pa_nil))) pe_str (nomark _)) (pss_one (ps_raise rfl (takes_of rfl rfl rfl rfl) (pmk_oex T.o_BadLine T.i_BadLine T.ti_BadLine (ok_init_BadLine T) (hr.mono (by decide)) T.b_BadLine .nil pass0 (by rfl) T.g_BadLine (pa_cons (pv 1) pa_nil)))) pss_nil)
        (pss_cons (ps_set (i := 2) sc_unquote.nd rfl (Or.inl rfl) (pe_lst pa_nil))
        (pss_cons (ps_aug (i := 1) sc_unquote.nd rfl (Or.inl rfl) pe_int ip_add)
        (pss_cons (ps_while (passes_of rfl) (pt_cmpR (op_neU hr.units) (pe_call (ok_sign_at T) (hr.mono (by decide)) (by rfl) T.g_sign_at T.F_sign_at.kp T.b_sign_at .nil (passes_call (takes_of rfl rfl rfl rfl) (fun _ _ _ _ h => h)) (pa_cons (pv 0) (pa_cons (pv 1) pa_nil))) pe_str (nomark _)) (pss_cons (ps_if (pt_cmpR (op_eqU hr.units) (pe_ix ix_seq (pv 0) (pv 1) (fun _ _ => rfl)) pe_str (nomark _)) (pss_one (ps_raise rfl (takes_of rfl rfl rfl rfl) (pmk_oex T.o_BadLine T.i_BadLine T.ti_BadLine (ok_init_BadLine T) (hr.mono (by decide)) T.b_BadLine .nil pass0 (by rfl) T.g_BadLine (pa_cons (pv 1) pa_nil)))) pss_nil)
        (pss_cons (ps_if (pt_cmpR (op_eqU hr.units) (pe_ix ix_seq (pv 0) (pv 1) (fun _ _ => rfl)) pe_str (nomark _)) (pss_cons (ps_aug (i := 1) sc_unquote.nd rfl (Or.inl rfl) pe_int ip_add)
        (pss_one (ps_expr (pe_bm PySem.F.plainAttrs_list PySem.F.slot_list_append PySem.F.type_list_append mt_append (pv 2) (pa_cons (pe_call (ok_escaped T) hr (by rfl) T.g_escaped T.F_escaped.kp T.b_escaped .nil (passes_call (takes_of rfl rfl rfl rfl) (fun _ _ _ _ h => h)) (pa_cons (pv 0) (pa_cons (pv 1) pa_nil))) pa_nil))))) (pss_one (ps_expr (pe_bm PySem.F.plainAttrs_list PySem.F.slot_list_append PySem.F.type_list_append mt_append (pv 2) (pa_cons (pe_ix ix_seq (pv 0) (pv 1) (fun _ _ => rfl)) pa_nil)))))
        (pss_one (ps_aug (i := 1) sc_unquote.nd rfl (Or.inl rfl) pe_int ip_add)))))
        (pss_one (ps_ret (pe_tup (pa_cons (pe_join pe_str (pv 2)) (pa_cons (pe_op op_addU (pv 1) pe_int) pa_nil))))))))), ?_⟩
    have zl : z.length ≤ sizeLine := by rw [sizeLine_eq]; omega
    walk_at "rd"
    unfold textR at q qE
    refine ⟨z, k, rfl, hk, hz, fun c hc => ?_, fun hc H' d e hd hd' => qE k (by rw [hc]) H' d e hd hd'⟩
    rw [hc] at q qE
    dsimp only at q qE
    have hkl : k < z.length := by rw [← cs_len]; exact (List.getElem?_eq_some_iff.mp hc).1
    walk_at "rd"
    refine r_iteN (fun h => ?_) (fun h => ?_)
    · have h : ¬ c = 34 := fun e => h (by rw [quoteS, e])
      rw [if_neg h] at qE
      walk_at "rd"
      exact r_raise1 fun d hd => qE k rfl _ d (Same.new (Same.refl _) hd) hd upd_same
    · have h : c = 34 := by
        have h := V.str.inj h
        rw [quoteS, tlS] at h
        exact h
      rw [if_pos h] at q qE
      walk_at "rd"
      refine r_small nsz fun S hS => ?_
      obtain ⟨H1, eH1, x1, g1⟩ := new1 hS (.lst [])
      rw [← eH1]
      walk_at "rd"
      refine ⟨_, rfl, ?_⟩
      walk_at "rd"
      refine ⟨_, _, rfl, rfl, ?_⟩
      refine ⟨fun m σ H' => ∃ (p : Nat) (ls : List Nat), σ = [some (.str z), some (.int (p : Nat)), some (.ref S)] ∧ Ex H H' ∧ H' S = some (sgL ls) ∧ p ≤ z.length ∧ ls.length ≤ p ∧ scanT ((cs z).drop (k + 1)) (k + 1) = (scanT ((cs z).drop p) p).pre ls ∧ m = z.length - p,
        ⟨_, k + 1, [], rfl, x1, g1, hkl, Nat.zero_le _, (pre_nil _).symm, rfl⟩, fun m σ H' hP => ?_⟩
      obtain ⟨p, ls, rfl, e, gS, hp, hll, hs, rfl⟩ := hP
      have qB : ∀ p', scanT ((cs z).drop p) p = .bad p' → ∀ H2 d, Ex H H2 → H d = none → H2 d = some (xAt p') → E (.ref T.c_BadLine) (some d) H2 := fun p' h => qE p' (by rw [hs, h]; rfl)
      walk_at "rd"
      refine ⟨z, p, rfl, hp, hz, fun c hc => ?_, fun hc H2 d e2 hd hd' => ?_⟩
      · have hd0 := drop_at hc
        have hpl : p < z.length := by rw [← cs_len]; exact (List.getElem?_eq_some_iff.mp hc).1
        have hat : atI z.cps.toList (p : Nat) = some c := atI_nat hc
        have sm : ((ls.map fun c => (⟨#[c]⟩ : Str)).map V.str).length < sizeLine := by
          rw [List.length_map, List.length_map]
          exact Nat.lt_of_le_of_lt (show ls.length ≤ 6000 by omega) (by decide)
        walk_at "rd"
        refine r_iteN (fun h1 => ?_) (fun h1 => ?_)
        · have h1 : c ≠ 34 := fun e => h1 (by rw [quoteS, e])
          refine ⟨fun σ' H2 => ∃ m', m' < z.length - p ∧ ∃ (p : Nat) (ls : List Nat), σ' = [some (.str z), some (.int (p : Nat)), some (.ref S)] ∧ Ex H H2 ∧ H2 S = some (sgL ls) ∧ p ≤ z.length ∧ ls.length ≤ p ∧ scanT ((cs z).drop (k + 1)) (k + 1) = (scanT ((cs z).drop p) p).pre ls ∧ m' = z.length - p, fun σ' H2 h => h, ?_⟩
          walk_at "rd"
          refine r_ixS zl hat ?_
          walk_at "rd"
          refine r_ite (fun h2 => ?_) (fun h2 => ?_)
          · have h2 : c = 10 := by
              have h := V.str.inj h2
              rw [feedS', tlS] at h
              exact h
            walk_at "rd"
            exact r_raise1 fun d hd => qB p (by rw [hd0, h2, scan_f]) _ d (e.trans (Same.new (Same.refl _) hd)) (e.free hd) upd_same
          · have h2 : c ≠ 10 := fun e => h2 (by rw [feedS', e])
            walk_at "rd"
            refine r_ixS zl hat ?_
            walk_at "rd"
            refine r_ite (fun h3 => ?_) (fun h3 => ?_)
            · have h3 : c = 92 := by
                have h := V.str.inj h3
                rw [backS, tlS] at h
                exact h
              subst h3
              walk_at "rd"
              refine ⟨_, rfl, ?_⟩
              walk_at "rd"
              refine ⟨_, _, rfl, rfl, ?_⟩
              walk_at "rd"
              refine r_tyL (sqL gS) ?_
              walk_at "rd"
              have esc : ∀ d, escR z (p + 1) = .inr d → ∃ r, (cs z)[p + 1]? = some r ∧ scanT ((cs z).drop p) p = (scanT ((cs z).drop (p + 2)) (p + 2)).cons d := fun d hd => by
                unfold escR at hd
                cases e1 : (cs z)[p + 1]? with
                | none => rw [e1] at hd; cases hd
                | some r =>
                  rw [e1] at hd
                  dsimp only at hd
                  refine ⟨r, rfl, ?_⟩
                  rw [hd0, drop_at e1]
                  split at hd
                  · rename_i g
                    cases hd
                    rw [g, scan_bn]
                  · split at hd
                    · rename_i g
                      cases hd
                      rw [scan_bs g]
                    · cases hd
              have escB : ∀ p', escR z (p + 1) = .inl p' → scanT ((cs z).drop p) p = .bad p' := fun p' hd => by
                unfold escR at hd
                cases e1 : (cs z)[p + 1]? with
                | none =>
                  rw [e1] at hd
                  cases hd
                  rw [hd0, drop_none e1, scan_b0]
                | some r =>
                  rw [e1] at hd
                  dsimp only at hd
                  rw [hd0, drop_at e1]
                  split at hd
                  · cases hd
                  · rename_i g1
                    split at hd
                    · cases hd
                    · rename_i g2
                      cases hd
                      rw [scan_bx g1 g2]
              refine ⟨z, p + 1, rfl, hpl, hz, fun d hd => ?_, fun p' hp' H2 d e2 hd hd' => qB p' (escB p' hp') H2 d (e.trans e2) (e.free hd) hd'⟩
              obtain ⟨r, hr, hsc⟩ := esc d hd
              have hrl : p + 1 < z.length := by rw [← cs_len]; exact (List.getElem?_eq_some_iff.mp hr).1
              walk_at "rd"
              refine r_app gS sm ?_
              walk_at "rd"
              refine ⟨_, rfl, ?_⟩
              walk_at "rd"
              refine ⟨_, _, rfl, rfl, ?_⟩
              refine ⟨z.length - (p + 2), by omega, p + 2, ls ++ [d], by show [some (V.str z), some (V.int (((p : Nat) : Int) + 1 + 1)), some (V.ref S)] = _; rw [show ((p : Nat) : Int) + 1 + 1 = ((p + 2 : Nat) : Int) by omega], Same.mut e hS, ?_, by omega, by rw [List.length_append, List.length_singleton]; omega, ?_, rfl⟩
              · rw [upd_same]
                unfold sgL
                rw [List.map_append, List.map_append]
                rfl
              · rw [hs, hsc, pre_cons]
            · have h3 : c ≠ 92 := fun e => h3 (by rw [backS, e])
              walk_at "rd"
              refine r_tyL (sqL gS) ?_
              walk_at "rd"
              refine r_ixS zl hat ?_
              walk_at "rd"
              refine r_app gS sm ?_
              walk_at "rd"
              refine ⟨_, rfl, ?_⟩
              walk_at "rd"
              refine ⟨_, _, rfl, rfl, ?_⟩
              refine ⟨z.length - (p + 1), by omega, p + 1, ls ++ [c], rfl, Same.mut e hS, ?_, by omega, by rw [List.length_append, List.length_singleton]; omega, ?_, rfl⟩
              · rw [upd_same]
                unfold sgL
                rw [List.map_append, List.map_append]
                rfl
              · rw [hs, hd0, scan_c h1 h2 h3, pre_cons]
        · have h1 : c = 34 := by
            have h := V.str.inj h1
            rw [quoteS, tlS] at h
            exact h
          walk_at "rd"
          refine ⟨⟨_, rfl⟩, ?_⟩
          walk_at "rd"
          refine ⟨"", S, _, rfl, rfl, .inl (sqL gS), ?_, ?_⟩
          · rw [sum_signs]
            show ls.length + _ * 0 ≤ _
            omega
          walk_at "rd"
          refine r_small nsz fun t ht => ?_
          have es : (Txt.join "" (ls.map fun c => (⟨#[c]⟩ : Str))) = ⟨ls.toArray⟩ := cs_ext (join_signs ls)
          refine q tagT (.str ⟨ls.toArray⟩) (p + 1) ?_ _ _ (e.trans (Same.new (Same.refl _) ht)) ⟨t, rfl, by rw [upd_same, ← es]; rfl⟩
          rw [hs, hd0, h1, scan_q]
          show ofT (TRes.ok (ls ++ []) (p + 1)) = _
          rw [List.append_nil]
          rfl
      · exact qB p (by rw [drop_none hc, scan_nil]) H2 d (e.trans e2) (e.free hd) hd'
theorem ok_word_at (T : Txt K mg) : FnOk P w K mg base (L2.CX P w) 6 T.a_word_at T.d_word_at ["line", "at"] (spWord T.c_BadLine) := by
  refine T.F_word_at.okX sc_word_at (fun vs H Q E h => ?_) (fun cdv A outer s H vs Q E hr h => ?_)
  · obtain ⟨z, k, rfl, _⟩ := h
    rfl
  · obtain ⟨z, k, rfl, hk, hz, q, qE⟩ := h
    refine ⟨_, (pss_cons (ps_set (i := 2) sc_word_at.nd rfl (Or.inl rfl) (pe_call (ok_sign_at T) (hr.mono (by decide)) (by rfl) T.g_sign_at T.F_sign_at.kp T.b_sign_at .nil (passes_call (takes_of rfl rfl rfl rfl) (fun _ _ _ _ h => h)) (pa_cons (pv 0) (pa_cons (pv 1) pa_nil))))
        (pss_cons (ps_if (PW.pt (pw_or (pt_cmpR (op_eqU hr.units) (pv 2) pe_str (nomark _)) (pw_or1 (pt_cmpR (op_eqU hr.units) (pv 2) pe_str (nomark _))))) (pss_one (ps_raise rfl (takes_of rfl rfl rfl rfl) (pmk_oex T.o_BadLine T.i_BadLine T.ti_BadLine (ok_init_BadLine T) (hr.mono (by decide)) T.b_BadLine .nil pass0 (by rfl) T.g_BadLine (pa_cons (pv 1) pa_nil)))) pss_nil)
        (pss_cons (ps_if (pt_cmpR op_inU (pv 2) (pe_glob (v := .str "abcdefghijklmnopqrstuvwxyz") rfl T.g_SMALL_LETTERS ⟨_, rfl⟩) (by rfl)) (pss_cons (ps_asg (pe_call (ok_name_at T) (hr.mono (by decide)) (by rfl) T.g_name_at T.F_name_at.kp T.b_name_at .nil (passes_call (takes_of rfl rfl rfl rfl) (fun _ _ _ _ h => h)) (pa_cons (pv 0) (pa_cons (pv 1) pa_nil))) (pg_tup rfl (pgs_cons (pg_name (i := 3) sc_word_at.nd rfl (Or.inl rfl)) (pgs_cons (pg_name (i := 4) sc_word_at.nd rfl (Or.inl rfl)) pgs_nil))))
        (pss_one (ps_ret (pe_tup (pa_cons (pe_tup (pa_cons pe_str (pa_cons (pv 3) pa_nil))) (pa_cons (pv 4) pa_nil)))))) pss_nil)
        (pss_cons (ps_if (pt_cmpR op_inU (pv 2) (pe_glob (v := .str "0123456789") rfl T.g_DIGITS ⟨_, rfl⟩) (by rfl)) (pss_cons (ps_asg (pe_call (ok_number_at T) (hr.mono (by decide)) (by rfl) T.g_number_at T.F_number_at.kp T.b_number_at .nil (passes_call (takes_of rfl rfl rfl rfl) (fun _ _ _ _ h => h)) (pa_cons (pv 0) (pa_cons (pv 1) pa_nil))) (pg_tup rfl (pgs_cons (pg_name (i := 5) sc_word_at.nd rfl (Or.inl rfl)) (pgs_cons (pg_name (i := 4) sc_word_at.nd rfl (Or.inl rfl)) pgs_nil))))
        (pss_one (ps_ret (pe_tup (pa_cons (pe_tup (pa_cons pe_str (pa_cons (pv 5) pa_nil))) (pa_cons (pv 4) pa_nil)))))) pss_nil)
        (pss_cons (ps_if (pt_cmpR (op_eqU hr.units) (pv 2) pe_str (nomark _)) (pss_cons (ps_asg (pe_call (ok_unquote T) hr (by rfl) T.g_unquote T.F_unquote.kp T.b_unquote .nil (passes_call (takes_of rfl rfl rfl rfl) (fun _ _ _ _ h => h)) (pa_cons (pv 0) (pa_cons (pv 1) pa_nil))) (pg_tup rfl (pgs_cons (pg_name (i := 6) sc_word_at.nd rfl (Or.inl rfl)) (pgs_cons (pg_name (i := 4) sc_word_at.nd rfl (Or.inl rfl)) pgs_nil))))
        (pss_one (ps_ret (pe_tup (pa_cons (pe_tup (pa_cons pe_str (pa_cons (pv 6) pa_nil))) (pa_cons (pv 4) pa_nil)))))) pss_nil)
        (pss_one (ps_ret (pe_tup (pa_cons (pe_tup (pa_cons pe_str (pa_cons (pv 2) pa_nil))) (pa_cons (pe_op op_addU (pv 1) pe_int) pa_nil)))))))))), ?_⟩
    have zl : z.length ≤ sizeLine := by rw [sizeLine_eq]; omega
    walk_at "rd"
    unfold wordR at q qE
    refine ⟨z, k, rfl, hk, hz, fun c hc => ?_, fun hc H' d e hd hd' => qE k (by rw [hc]) H' d e hd hd'⟩
    rw [hc] at q qE
    dsimp only at q qE
    walk_at "rd"
    refine r_ite (fun h1 => ?_) (fun h1 => ?_)
    · have h1 : c = 32 := by
        have h := V.str.inj h1
        rw [blankS, tlS] at h
        exact h
      rw [if_pos (.inl h1)] at qE
      walk_at "rd"
      exact r_raise1 fun d hd => qE k rfl _ d (Same.new (Same.refl _) hd) hd upd_same
    have h1 : ¬ c = 32 := fun e => h1 (by rw [blankS, e])
    walk_at "rd"
    refine r_ite (fun h2 => ?_) (fun h2 => ?_)
    · have h2 : c = 10 := by
        have h := V.str.inj h2
        rw [feedS', tlS] at h
        exact h
      rw [if_pos (.inr h2)] at qE
      walk_at "rd"
      exact r_raise1 fun d hd => qE k rfl _ d (Same.new (Same.refl _) hd) hd upd_same
    have h2 : ¬ c = 10 := fun e => h2 (by rw [feedS', e])
    rw [if_neg (fun g => g.elim h1 h2)] at q qE
    walk_at "rd"
    refine r_inS ?_
    walk_at "rd"
    refine r_ite (fun h3 => ?_) (fun h3 => ?_)
    · have h3 : smc c = true := (sm_mem c).mp h3
      rw [if_pos h3] at q qE
      walk_at "rd"
      refine ⟨z, k, rfl, hk, hz, fun t v e hr x H1 e1 ⟨p, ex, gp⟩ => ?_, qE⟩
      subst ex
      refine r_gtup (sqT gp) rfl ?_
      walk_at "rd"
      have ht : t = tagN := by
        unfold nameR at hr
        rw [hc] at hr
        dsimp only at hr
        rw [if_pos h3] at hr
        split at hr
        · cases hr
        · cases hr; rfl
      refine r_small nsz fun p2 hp2 => ?_
      obtain ⟨H2, eH2, x2, g2⟩ := new1 hp2 (.tup [.str "name", v])
      rw [← eH2]
      walk_at "rd"
      refine r_small nsz fun p3 hp3 => ?_
      have x3 := Same.new (o := HO.tup [.ref p2, .int (e : Nat)]) (Same.refl H2) hp3
      exact q t v e hr _ _ (e1.trans (x2.trans x3)) ⟨p3, p2, rfl, upd_same, by rw [ht]; exact x3 _ _ g2⟩
    have h3' : ¬ smc c = true := fun e => h3 ((sm_mem c).mpr e)
    rw [if_neg h3'] at q qE
    walk_at "rd"
    refine r_inS ?_
    walk_at "rd"
    refine r_ite (fun h4 => ?_) (fun h4 => ?_)
    · have h4 : dgc c = true := (dg_mem c).mp h4
      rw [if_pos h4] at q qE
      walk_at "rd"
      refine ⟨z, k, rfl, hk, hz, fun t v e hr x H1 e1 ⟨p, ex, gp⟩ => ?_, qE⟩
      subst ex
      refine r_gtup (sqT gp) rfl ?_
      walk_at "rd"
      have ht : t = tagD := by
        unfold numR at hr
        rw [hc] at hr
        dsimp only at hr
        rw [if_pos h4] at hr
        cases hr
        rfl
      refine r_small nsz fun p2 hp2 => ?_
      obtain ⟨H2, eH2, x2, g2⟩ := new1 hp2 (.tup [.str "number", v])
      rw [← eH2]
      walk_at "rd"
      refine r_small nsz fun p3 hp3 => ?_
      have x3 := Same.new (o := HO.tup [.ref p2, .int (e : Nat)]) (Same.refl H2) hp3
      exact q t v e hr _ _ (e1.trans (x2.trans x3)) ⟨p3, p2, rfl, upd_same, by rw [ht]; exact x3 _ _ g2⟩
    have h4' : ¬ dgc c = true := fun e => h4 ((dg_mem c).mpr e)
    rw [if_neg h4'] at q qE
    walk_at "rd"
    refine r_ite (fun h5 => ?_) (fun h5 => ?_)
    · have h5 : c = 34 := by
        have h := V.str.inj h5
        rw [quoteS, tlS] at h
        exact h
      rw [if_pos h5] at q qE
      walk_at "rd"
      refine ⟨z, k, rfl, hk, hz, fun t v e hr x H1 e1 ⟨p, ex, gp⟩ => ?_, qE⟩
      subst ex
      refine r_gtup (sqT gp) rfl ?_
      walk_at "rd"
      have ht : t = tagT := by
        unfold textR at hr
        rw [hc] at hr
        dsimp only at hr
        rw [if_pos h5] at hr
        cases ks : scanT ((cs z).drop (k + 1)) (k + 1) with
        | bad p => rw [ks] at hr; cases hr
        | ok t' e' => rw [ks] at hr; cases hr; rfl
      refine r_small nsz fun p2 hp2 => ?_
      obtain ⟨H2, eH2, x2, g2⟩ := new1 hp2 (.tup [.str "text", v])
      rw [← eH2]
      walk_at "rd"
      refine r_small nsz fun p3 hp3 => ?_
      have x3 := Same.new (o := HO.tup [.ref p2, .int (e : Nat)]) (Same.refl H2) hp3
      exact q t v e hr _ _ (e1.trans (x2.trans x3)) ⟨p3, p2, rfl, upd_same, by rw [ht]; exact x3 _ _ g2⟩
    have h5' : ¬ c = 34 := fun e => h5 (by rw [quoteS, e])
    rw [if_neg h5'] at q
    walk_at "rd"
    refine r_small nsz fun p2 hp2 => ?_
    obtain ⟨H2, eH2, x2, g2⟩ := new1 hp2 (.tup [.str "sign", .str ⟨#[c]⟩])
    rw [← eH2]
    walk_at "rd"
    refine r_small nsz fun p3 hp3 => ?_
    have x3 := Same.new (o := HO.tup [.ref p2, .int ((k + 1 : Nat) : Int)]) (Same.refl H2) hp3
    exact q tagS _ (k + 1) rfl _ _ (x2.trans x3) ⟨p3, p2, rfl, upd_same, x3 _ _ g2⟩
end
end K18

namespace K18
open PySem PySem.Spec PyProof.Rows L2 Dk Q18
/-- one step of a reading -/
local macro_rules | `(tactic| walk_at "rd1") => `(tactic| first
  | ((with_reducible refine r_var (v := ?rv) ?rh ?_); (case rh => rfl))
  | with_reducible refine r_c ?_
  | with_reducible refine r_seq ?_
  | with_reducible refine r_asg ?_
  | with_reducible refine r_par ?_
  | with_reducible refine r_gname ?_
  | with_reducible refine r_op ?_
  | with_reducible refine r_forLo ?_
  | with_reducible refine r_forTo ?_
  | with_reducible refine r_forSo ?_
  | with_reducible refine r_forRo ?_
  | with_reducible refine r_forRvo ?_
  | with_reducible refine r_forZo ?_
  | with_reducible refine r_revS ?_
  | with_reducible refine r_lcRo ?_
  | with_reducible refine r_lcLo ?_
  | with_reducible refine r_yes ?_
  | with_reducible refine r_callK0 ?_
  | with_reducible refine r_break ?_
  | with_reducible refine r_continue ?_
  | with_reducible refine r_forR2o ?_
  | with_reducible refine r_forEo ?_
  | with_reducible refine r_forESo ?_
  | with_reducible refine r_xfo ?_
  | with_reducible refine r_noP ?_
  | with_reducible refine r_part ?_
  | with_reducible refine r_pI ?_
  | with_reducible refine r_gcons ?_
  | with_reducible refine r_gnil ?_
  | with_reducible refine r_mkO ?_
  | with_reducible refine r_un ?_
  | with_reducible refine r_addI ?_
  | with_reducible refine r_I0 ?_
  | with_reducible refine r_U ?_
  | with_reducible refine r_cons ?_
  | with_reducible refine r_nil ?_
  | with_reducible refine r_CB ?_
  | with_reducible refine r_call ?_
  | with_reducible refine r_callS ?_
  | with_reducible refine r_int ?_
  | with_reducible refine r_max ?_
  | with_reducible refine r_min ?_
  | with_reducible refine r_test ?_
  | with_reducible refine r_B ?_
  | with_reducible refine r_blv ?_
  | with_reducible refine r_and ?_
  | with_reducible refine r_or ?_
  | with_reducible refine r_not ?_
  | with_reducible refine r_andV ?_
  | with_reducible refine r_orV ?_
  | with_reducible refine r_notV ?_
  | with_reducible refine r_ifE ?_
  | with_reducible refine r_ifS ?_
  | with_reducible refine r_ret ?_
  | with_reducible refine r_retN ?_
  | with_reducible refine r_drop ?_
  | with_reducible refine r_next ?_
  | with_reducible refine r_sl ?_
  | with_reducible refine r_gsub ?_
  | with_reducible refine r_bm ?_
  | with_reducible refine r_bm0 ?_
  | with_reducible refine r_tup ?_
  | with_reducible refine r_lst ?_
  | with_reducible refine r_isN ?_
  | with_reducible refine r_notN ?_
  | with_reducible refine r_chain ?_
  | with_reducible refine r_callK ?_
  | with_reducible refine r_isB ?_
  | with_reducible refine r_lcEio ?_
  | with_reducible refine r_forEi ?_
  | with_reducible refine r_lcTo ?_
  | with_reducible refine r_lcSo ?_
  | with_reducible refine r_m1 ?_
  | with_reducible refine r_dget ?_
  | with_reducible refine r_din ?_
  | with_reducible refine r_dnotin ?_
  | with_reducible refine r_starC ?_
  | with_reducible refine r_callKS ?_
  | with_reducible refine r_itt ?_
  | with_reducible refine r_iff ?_
  | with_reducible refine r_ittN ?_
  | with_reducible refine r_iffN ?_
  | ((with_reducible refine r_ittD ?rh ?_); (case rh => rfl))
  | ((with_reducible refine r_iffD ?rh ?_); (case rh => rfl))
  | ((with_reducible refine r_modP ?rh ?_); (case rh => decide))
  | ((with_reducible refine r_eq ?rh ?_); (case rh => rfl))
  | ((with_reducible refine r_eqP ?rh ?_); (case rh => rfl))
  | ((with_reducible refine r_ne ?rh ?_); (case rh => rfl)))
local macro_rules | `(tactic| walk_at "rd") => `(tactic| repeat walk_at "rd1")
local macro_rules | `(tactic| walk_at "isi") => `(tactic| first | refine r_isi (b := true) (by assumption) (by decide +kernel) ?_ | refine r_isi (b := false) (by assumption) (by decide +kernel) ?_)
local macro_rules | `(tactic| walk_at "rs1") => `(tactic| first
  | with_reducible refine r_seq ?_
  | with_reducible refine r_asg ?_
  | with_reducible refine r_gname ?_
  | with_reducible refine r_ret ?_)
local macro_rules | `(tactic| walk_at "rs") => `(tactic| repeat walk_at "rs1")

def W2 (H : Hp) (x : V) (w : Wd) : Prop := ∃ q, x = .ref q ∧ H q = some (.tup [.str w.1, w.2])
def PW (H : Hp) (x : V) (w : Wd) : Prop := ∃ p q b, x = .ref p ∧ H p = some (.tup [b, .ref q]) ∧ H q = some (.tup [.str w.1, w.2])
instance : Imm W2 := ⟨fun t h => h.imp fun p z => ⟨z.1, t _ _ z.2⟩⟩
instance : Imm PW := ⟨fun t ⟨p, q, b, h1, h2, h3⟩ => ⟨p, q, b, h1, t _ _ h2, t _ _ h3⟩⟩
/-- what stands behind a word that ends at e -/
def Rest (z : Str) (e : Nat) (acc : List Wd) (r : LRes) : Prop := (e = z.length ∧ r = .words acc) ∨ (∃ c, (cs z)[e]? = some c ∧ c ≠ 32 ∧ r = .bad e) ∨ ((cs z)[e]? = some 32 ∧ Reads z (e + 1) acc r)
theorem rest_reads {z : Str} {k e : Nat} {t : Str} {v : V} {acc : List Wd} {r : LRes} (h : wordR z k = .ok t v e) (g : Rest z e (acc ++ [(t, v)]) r) : Reads z k acc r := by
  rcases g with ⟨rfl, rfl⟩ | ⟨c, h1, h2, rfl⟩ | ⟨h1, h2⟩
  · exact .last h
  · exact .off h h1 h2
  · exact .more h h1 h2
def spPlaced (C : Addr) : Sp := fun vs H Q E => ∃ z : Str, vs = [.str z] ∧ z.length ≤ 6000 ∧ (∀ l, Line z (.words l) → ∀ p xs H', Ex H H' → H p = none → xs.length ≤ 6000 → H' p = some (.lst xs) → P2 (PW H') xs l → Q (.ref p) H') ∧
  (∀ k, Line z (.bad k) → ∀ H' d, Ex H H' → H d = none → H' d = some (xAt k) → E (.ref C) (some d) H')
def spWords (C : Addr) : Sp := fun vs H Q E => ∃ z : Str, vs = [.str z] ∧ z.length ≤ 6000 ∧ (∀ l, Line z (.words l) → ∀ p xs H', Ex H H' → H' p = some (.tup xs) → P2 (W2 H') xs l → Q (.ref p) H') ∧
  (∀ k, Line z (.bad k) → ∀ H' d, Ex H H' → H d = none → H' d = some (xAt k) → E (.ref C) (some d) H')
section
variable {P : Program} {w : World} {K : PySem.W.Frag} {mg : Str → Option Value} {base : Heap}
theorem ok_placed_words (T : Txt K mg) : FnOk P w K mg base (L2.CX P w) 7 T.a_placed_words T.d_placed_words ["line"] (spPlaced T.c_BadLine) := by
  refine T.F_placed_words.okX sc_placed_words (fun vs H Q E h => ?_) (fun cdv A outer s H vs Q E hr h => ?_)
  · obtain ⟨z, rfl, _⟩ := h
    rfl
  · obtain ⟨z, rfl, hz, q, qE⟩ := h
    refine ⟨_, (pss_cons (ps_if (pt_cmpR (op_eqU hr.units) (pv 0) pe_str (nomark _)) (pss_one (ps_ret (pe_lst pa_nil))) pss_nil)
        (pss_cons (ps_asg (pe_call (ok_word_at T) hr (by rfl) T.g_word_at T.F_word_at.kp T.b_word_at .nil (passes_call (takes_of rfl rfl rfl rfl) (fun _ _ _ _ h => h)) (pa_cons (pv 0) (pa_cons pe_int pa_nil))) (pg_tup rfl (pgs_cons (pg_name (i := 1) sc_placed_words.nd rfl (Or.inl rfl)) (pgs_cons (pg_name (i := 2) sc_placed_words.nd rfl (Or.inl rfl)) pgs_nil))))
        (pss_cons (ps_set (i := 3) sc_placed_words.nd rfl (Or.inl rfl) (pe_lst (pa_cons (pe_tup (pa_cons pe_int (pa_cons (pv 1) pa_nil))) pa_nil)))
        (pss_cons (ps_while (passes_of rfl) (pt_cmpR op_lt (pv 2) (pe_callB call_lenU (by rfl) T.n_len (by decide +kernel) (pa_cons (pv 0) pa_nil)) (nomark _)) (pss_cons (ps_if (pt_cmpR (op_neU hr.units) (pe_ix ix_seq (pv 0) (pv 2) (fun _ _ => rfl)) pe_str (nomark _)) (pss_one (ps_raise rfl (takes_of rfl rfl rfl rfl) (pmk_oex T.o_BadLine T.i_BadLine T.ti_BadLine (ok_init_BadLine T) (hr.mono (by decide)) T.b_BadLine .nil pass0 (by rfl) T.g_BadLine (pa_cons (pv 2) pa_nil)))) pss_nil)
        (pss_cons (ps_set (i := 4) sc_placed_words.nd rfl (Or.inl rfl) (pe_op op_addU (pv 2) pe_int))
        (pss_cons (ps_asg (pe_call (ok_word_at T) hr (by rfl) T.g_word_at T.F_word_at.kp T.b_word_at .nil (passes_call (takes_of rfl rfl rfl rfl) (fun _ _ _ _ h => h)) (pa_cons (pv 0) (pa_cons (pv 4) pa_nil))) (pg_tup rfl (pgs_cons (pg_name (i := 1) sc_placed_words.nd rfl (Or.inl rfl)) (pgs_cons (pg_name (i := 2) sc_placed_words.nd rfl (Or.inl rfl)) pgs_nil))))
        (pss_one (ps_expr (pe_bm PySem.F.plainAttrs_list PySem.F.slot_list_append PySem.F.type_list_append mt_append (pv 3) (pa_cons (pe_tup (pa_cons (pv 4) (pa_cons (pv 1) pa_nil))) pa_nil))))))))
        (pss_one (ps_ret (pv 3))))))), ?_⟩
    have zl : z.length ≤ sizeLine := by rw [sizeLine_eq]; omega
    have e0 : (z = Str.ofString "") ↔ z.length = 0 := by
      constructor
      · intro h
        rw [h]
        decide +kernel
      · intro h
        refine cs_ext ?_
        have h0 : cs z = [] := List.length_eq_zero_iff.mp (by rw [cs_len]; exact h)
        rw [h0]
        decide +kernel
    walk_at "rd"
    refine r_ite (fun h => ?_) (fun h => ?_)
    · have h : z.length = 0 := e0.mp (V.str.inj h)
      walk_at "rd"
      refine r_small nsz fun p hp => ?_
      exact q [] (.inl ⟨h, rfl⟩) p [] _ (Same.new (Same.refl _) hp) hp (Nat.zero_le _) upd_same .nil
    · have h : 0 < z.length := Nat.pos_of_ne_zero fun e => h (by rw [e0.mpr e])
      walk_at "rd"
      refine ⟨z, 0, rfl, Nat.zero_le _, hz, fun t v e hr x H1 e1 ⟨p, q0, ex, gp, gq⟩ => ?_, fun p hp H' d e hd hd' => qE p (.inr ⟨h, .bad hp⟩) H' d e hd hd'⟩
      subst ex
      refine r_gtup (sqT gp) rfl ?_
      walk_at "rd"
      refine r_small nsz fun p1 hp1 => ?_
      obtain ⟨H2, eH2, x2, g2⟩ := new1 hp1 (.tup [.int 0, .ref q0])
      rw [← eH2]
      walk_at "rd"
      refine r_small nsz fun L hL => ?_
      obtain ⟨H3, eH3, x3, g3⟩ := new1 hL (.lst [.ref p1])
      rw [← eH3]
      have fL : H L = none := (e1.trans x2).free hL
      walk_at "rd"
      refine ⟨fun m σ H' => ∃ (e : Nat) (acc : List Wd) (xs : List V) (y1 y4 : Option V), σ = [some (.str z), y1, some (.int (e : Nat)), some (.ref L), y4] ∧ Ex H H' ∧ H' L = some (.lst xs) ∧ P2 (PW H') xs acc ∧ xs.length ≤ e ∧ e ≤ z.length ∧ (∀ r, Rest z e acc r → Line z r) ∧ m = z.length - e,
        ⟨_, e, [(t, v)], [.ref p1], _, none, rfl, (e1.trans x2).trans x3, g3, .cons ⟨p1, q0, _, rfl, x3 _ _ g2, x3 _ _ (x2 _ _ gq)⟩ .nil, (word_end hr).1, (word_end hr).2, fun r hr' => .inr ⟨h, rest_reads (acc := []) hr hr'⟩, rfl⟩, fun m σ H' hP => ?_⟩
      obtain ⟨e, acc, xs, y1, y4, rfl, eH, gL, gp, xl, el, hrest, rfl⟩ := hP
      walk_at "rd"
      refine r_lenS zl ?_
      walk_at "rd"
      refine r_ite (fun c1 => ?_) (fun c1 => ?_)
      · have he : e < z.length := by omega
        obtain ⟨c, hc, hat⟩ := s_at he
        refine ⟨fun σ' H2 => ∃ m', m' < z.length - e ∧ ∃ (e : Nat) (acc : List Wd) (xs : List V) (y1 y4 : Option V), σ' = [some (.str z), y1, some (.int (e : Nat)), some (.ref L), y4] ∧ Ex H H2 ∧ H2 L = some (.lst xs) ∧ P2 (PW H2) xs acc ∧ xs.length ≤ e ∧ e ≤ z.length ∧ (∀ r, Rest z e acc r → Line z r) ∧ m' = z.length - e, fun σ' H2 h => h, ?_⟩
        walk_at "rd"
        refine r_ixS zl hat ?_
        walk_at "rd"
        refine r_iteN (fun c2 => ?_) (fun c2 => ?_)
        · have c2 : c ≠ 32 := fun g => c2 (by rw [blankS, g])
          walk_at "rd"
          exact r_raise1 fun d hd => qE e (hrest _ (.inr (.inl ⟨c, hc, c2, rfl⟩))) _ d (eH.trans (Same.new (Same.refl _) hd)) (eH.free hd) upd_same
        · have c2 : c = 32 := by
            have g := V.str.inj c2
            rw [blankS, tlS] at g
            exact g
          rw [c2] at hc
          walk_at "rd"
          refine ⟨z, e + 1, rfl, he, hz, fun t v e2 hr x H4 x4 ⟨p, q0, ex, gp', gq⟩ => ?_, fun p hp H2 d x4 hd hd' => qE p (hrest _ (.inr (.inr ⟨hc, .bad hp⟩))) H2 d (eH.trans x4) (eH.free hd) hd'⟩
          subst ex
          refine r_gtup (sqT gp') rfl ?_
          walk_at "rd"
          refine r_tyL (sqL (x4 _ _ gL)) ?_
          walk_at "rd"
          refine r_small nsz fun p1 hp1 => ?_
          obtain ⟨H5, eH5, x5, g5⟩ := new1 hp1 (.tup [.int (((e : Nat) : Int) + 1), .ref q0])
          rw [← eH5]
          walk_at "rd"
          have gL5 := x5 _ _ (x4 _ _ gL)
          refine r_app gL5 (by rw [sizeLine_eq]; omega) ?_
          walk_at "rd"
          have we := word_end hr
          have tk : Tk H' (upd H5 L (.lst (xs ++ [.ref p1]))) := (Tk.ex (x4.trans x5)).trans (Tk.put gL5)
          refine ⟨z.length - e2, by omega, e2, acc ++ [(t, v)], xs ++ [.ref p1], _, _, rfl, Same.mut (eH.trans (x4.trans x5)) fL, upd_same, (p2_imm tk gp).snoc ?_, by rw [List.length_append, List.length_singleton]; omega, we.2, fun r hr' => hrest r (.inr (.inr ⟨hc, rest_reads hr hr'⟩)), rfl⟩
          exact imm (Tk.put gL5) (show PW H5 (.ref p1) (t, v) from ⟨p1, q0, _, rfl, g5, x5 _ _ gq⟩)
      · walk_at "rd"
        exact q acc (hrest _ (.inl ⟨by omega, rfl⟩)) L xs H' eH fL (by omega) gL gp
theorem ok_words_of (T : Txt K mg) : FnOk P w K mg base (L2.CX P w) 8 T.a_words_of T.d_words_of ["line"] (spWords T.c_BadLine) := by
  refine T.F_words_of.okX sc_words_of (fun vs H Q E h => ?_) (fun cdv A outer s H vs Q E hr h => ?_)
  · obtain ⟨z, rfl, _⟩ := h
    rfl
  · obtain ⟨z, rfl, hz, q, qE⟩ := h
    refine ⟨_, (pss_one (ps_ret (pe_callTy call_tupU (by rfl) T.n_tuple (by decide +kernel) (pa_cons (pe_lc (own := [("_", 1), ("word", 2)]) (g := gTup K 2 (gCons (gName 1) (gCons (gName 2) gNil))) rfl sc_words_of.nd (pi_list (pe_call (ok_placed_words T) hr (by rfl) T.g_placed_words T.F_placed_words.kp T.b_placed_words .nil (passes_call (takes_of rfl rfl rfl rfl) (fun _ _ _ _ h => h)) (pa_cons (pv 0) pa_nil))) (blkOk_by (N := N_words_of) (sc := defScope s_words_of) (by decide +kernel)) (fun _ _ _ _ _ => pg_tup rfl (pgs_cons (pg_name (i := 1) sc_words_of.nd rfl (Or.inl rfl)) (pgs_cons (pg_name (i := 2) sc_words_of.nd rfl (Or.inl rfl)) pgs_nil))) (fun _ _ _ _ _ => pts_nil) (fun _ _ _ _ _ => (pv 2))) pa_nil)))), ?_⟩
    walk_at "rd"
    refine ⟨z, rfl, hz, fun l hl L xs H1 e1 fL xl gL gp => ?_, qE⟩
    have pl := gp.len
    refine l_lcL (sqL gL) (fun C i H2 => Ex H1 H2 ∧ ∃ ys, H2 C = some (.lst ys) ∧ P2 (W2 H2) ys (l.take i)) (fun C hC => ⟨Same.new (Same.refl _) hC, [], upd_same, .nil⟩) (fun C i H2 hP => sqL (hP.1 _ _ gL)) (fun C i x H2 hC hx hP => ?_) (fun C H2 hC hP => ?_)
    · obtain ⟨e, ys, gC, hy⟩ := hP
      obtain ⟨wd, hw, p, q0, b, rfl, g1, g2⟩ := gp.get hx
      refine r_gtup (sqT (e _ _ g1)) rfl ?_
      walk_at "rd"
      refine ⟨rfl, ?_⟩
      walk_at "rd"
      have yl := hy.len
      rw [List.length_take] at yl
      refine ⟨_, gC, Nat.lt_of_le_of_lt (show ys.length ≤ 6000 by omega) (by decide), Same.mut e hC, _, upd_same, ?_⟩
      rw [List.take_add_one, hw]
      exact (p2_imm (Tk.put gC) hy).snoc (imm (Tk.put gC) (show W2 H2 (.ref q0) wd from ⟨q0, rfl, e _ _ g2⟩))
    · obtain ⟨e, ys, gC, hy⟩ := hP
      rw [List.take_of_length_le (by rw [gp.len]; exact Nat.le_refl _)] at hy
      walk_at "rd"
      refine r_tupL (sqL gC) fun p hp => ?_
      have x3 := Same.new (o := HO.tup ys) (Same.refl H2) hp
      exact q l hl p ys _ (e1.trans (e.trans x3)) upd_same (p2_imm (Tk.ex x3) hy)
end
end K18

/-! the sign by sign machine, without code -/
namespace Q18
open PySem PySem.Spec PyProof.Rows L2 Dk
def rsS : Nat → Str
  | 0 => "name"
  | 1 => "nought"
  | 2 => "number"
  | 3 => "text"
  | 4 => "escape"
  | 5 => "sign"
  | 6 => "bad"
  | 7 => "ended"
  | _ => "closed"
theorem rs_all : (List.range 9).all (fun a => (List.range 9).all fun b => decide (rsS a = rsS b → a = b)) = true := by decide +kernel
theorem rs_inj {a b : Nat} (ha : a ≤ 8) (hb : b ≤ 8) (h : rsS a = rsS b) : a = b :=
  of_decide_eq_true (List.all_eq_true.mp (List.all_eq_true.mp rs_all a (List.mem_range.mpr (by omega))) b (List.mem_range.mpr (by omega))) h
def bgn (c : Nat) : Nat := if c = 32 ∨ c = 10 then 6 else if smc c = true then 0 else if c = 48 then 1 else if dgc c = true then 2 else if c = 34 then 3 else 5
def onR (w n c : Nat) : Nat :=
  if w = 0 ∧ nmc c = true then (if n = 12 then 6 else 0)
  else if w = 2 ∧ dgc c = true ∧ n < 9 then 2
  else if w = 4 then (if c = 92 ∨ c = 34 ∨ c = 110 then 3 else 6)
  else if w = 3 then (if c = 10 then 6 else if c = 92 then 4 else if c = 34 then 8 else 3)
  else 7
def mst (s : Bool × List Nat) (c : Nat) : Bool × List Nat := if s.1 = true then (false, s.2 ++ [if c = 110 then 10 else c]) else if c = 92 then (true, s.2) else (false, s.2 ++ [c])
def mach (l : List Nat) : Bool × List Nat := l.foldl mst (false, [])
theorem mach_snoc (l : List Nat) (c : Nat) : mach (l ++ [c]) = mst (mach l) c := by
  unfold mach
  rw [List.foldl_append]
  rfl
def seg (l : List Nat) (a b : Nat) : List Nat := (l.drop a).take (b - a)
theorem seg_nil (l : List Nat) (a : Nat) : seg l a a = [] := by unfold seg; rw [Nat.sub_self, List.take_zero]
theorem seg_succ {l : List Nat} {a b c : Nat} (h : a ≤ b) (hc : l[b]? = some c) : seg l a (b + 1) = seg l a b ++ [c] := by
  unfold seg
  rw [show b + 1 - a = (b - a) + 1 by omega, List.take_add_one, List.getElem?_drop, show a + (b - a) = b by omega, hc]
  rfl
theorem seg_len {l : List Nat} {a b : Nat} (h : b ≤ l.length) : (seg l a b).length = b - a := by
  unfold seg
  rw [List.length_take, List.length_drop]
  omega
theorem cut_seg (z : Str) (a b : Nat) : cs (cut z a b) = seg (cs z) a b := cut_cs z a b
theorem cut_len' {z : Str} {a b : Nat} (h : b ≤ z.length) : (cut z a b).length = b - a := by
  rw [← cs_len, cut_seg, seg_len (by rw [cs_len]; exact h)]
theorem cut_snoc {z : Str} {a b c : Nat} (h : a ≤ b) (hc : (cs z)[b]? = some c) : cut z a b ++ ⟨#[c]⟩ = cut z a (b + 1) := by
  refine cs_ext ?_
  rw [cs_app, cut_seg, cut_seg, seg_succ h hc]
/-- the inside of a quoted piece -/
theorem seg_in {l : List Nat} {a b : Nat} (h : a + 2 ≤ b) (hb : b ≤ l.length) : seg (seg l a b) 1 ((seg l a b).length - 1) = seg l (a + 1) (b - 1) := by
  rw [seg_len hb]
  unfold seg
  rw [List.drop_take, List.drop_drop, List.take_take, show min (b - a - 1 - 1) (b - a - 1) = b - 1 - (a + 1) by omega]
def madeR (w : Nat) (h : Str) : Str × V := if w = 0 ∨ w = 5 then (rsS w, .str h) else if w = 1 ∨ w = 2 then (tagD, .int (nv h)) else (tagT, .str ⟨(mach (seg (cs h) 1 (h.length - 1))).2.toArray⟩)
def MadeOk (w : Nat) (h : Str) : Prop := (w = 0 ∨ w = 5) ∨ ((w = 1 ∨ w = 2) ∧ PySem.intText? h = some (nv h) ∧ h.length ≤ 640) ∨ (w = 3 ∧ 2 ≤ h.length)
def InvO (z : Str) (k w j : Nat) : Prop := ∃ c0, (cs z)[k]? = some c0 ∧ k < j ∧ j ≤ z.length ∧
  ((w = 0 ∧ bgn c0 = 0 ∧ smc c0 = true ∧ (∀ i c, k + 1 ≤ i → i < j → (cs z)[i]? = some c → nmc c = true) ∧ j - k ≤ 12) ∨
   (w = 1 ∧ bgn c0 = 1 ∧ c0 = 48 ∧ j = k + 1) ∨
   (w = 2 ∧ bgn c0 = 2 ∧ dgc c0 = true ∧ c0 ≠ 48 ∧ (∀ i c, k + 1 ≤ i → i < j → (cs z)[i]? = some c → dgc c = true) ∧ j - k ≤ 9) ∨
   (w = 3 ∧ bgn c0 = 3 ∧ c0 = 34 ∧ ∃ o, mach (seg (cs z) (k + 1) j) = (false, o) ∧ scanT ((cs z).drop (k + 1)) (k + 1) = (scanT ((cs z).drop j) j).pre o) ∨
   (w = 4 ∧ bgn c0 = 3 ∧ c0 = 34 ∧ k + 2 ≤ j ∧ ∃ o, mach (seg (cs z) (k + 1) j) = (true, o) ∧ scanT ((cs z).drop (k + 1)) (k + 1) = (scanT (92 :: (cs z).drop j) (j - 1)).pre o) ∨
   (w = 5 ∧ bgn c0 = 5 ∧ j = k + 1))
section
variable {z : Str} {k c0 : Nat}
theorem word_bgn (h : (cs z)[k]? = some c0) : wordR z k = (if bgn c0 = 6 then .bad k else if bgn c0 = 0 then nameR z k else if bgn c0 = 1 ∨ bgn c0 = 2 then numR z k else if bgn c0 = 3 then textR z k else .ok tagS (.str ⟨#[c0]⟩) (k + 1)) := by
  unfold wordR
  rw [h]
  dsimp only
  unfold bgn
  by_cases h1 : c0 = 32 ∨ c0 = 10
  · rw [if_pos h1, if_pos h1, if_pos rfl]
  rw [if_neg h1, if_neg h1]
  by_cases h2 : smc c0 = true
  · rw [if_pos h2, if_pos h2, if_neg (by decide), if_pos rfl]
  rw [if_neg h2, if_neg h2]
  by_cases h3 : c0 = 48
  · rw [if_pos h3, if_pos (by rw [h3]; decide), if_neg (by decide), if_neg (by decide), if_pos (.inl rfl)]
  rw [if_neg h3]
  by_cases h4 : dgc c0 = true
  · rw [if_pos h4, if_pos h4, if_neg (by decide), if_neg (by decide), if_pos (.inr rfl)]
  rw [if_neg h4, if_neg h4]
  by_cases h5 : c0 = 34
  · rw [if_pos h5, if_pos h5, if_neg (by decide), if_neg (by decide), if_neg (by decide), if_pos rfl]
  rw [if_neg h5, if_neg h5, if_neg (by decide), if_neg (by decide), if_neg (by decide), if_neg (by decide)]
theorem begin_bad (h : (cs z)[k]? = some c0) (hb : bgn c0 = 6) : wordR z k = .bad k := by rw [word_bgn h, if_pos hb]
theorem bgn_le (c : Nat) : bgn c ≤ 6 ∧ bgn c ≠ 4 := by
  unfold bgn
  repeat (first | split | (constructor <;> decide))
theorem begin_inv (h : (cs z)[k]? = some c0) (hb : bgn c0 ≠ 6) : InvO z k (bgn c0) (k + 1) := by
  have hk : k < z.length := by rw [← cs_len]; exact (List.getElem?_eq_some_iff.mp h).1
  refine ⟨c0, h, by omega, hk, ?_⟩
  have noin : ∀ {f : Nat → Bool} (i c : Nat), k + 1 ≤ i → i < k + 1 → (cs z)[i]? = some c → f c = true := fun i c h1 h2 => absurd h2 (by omega)
  by_cases h1 : c0 = 32 ∨ c0 = 10
  · exact absurd (by unfold bgn; rw [if_pos h1]) hb
  by_cases h2 : smc c0 = true
  · have e : bgn c0 = 0 := by unfold bgn; rw [if_neg h1, if_pos h2]
    exact .inl ⟨e, e, h2, noin, by omega⟩
  by_cases h3 : c0 = 48
  · have e : bgn c0 = 1 := by unfold bgn; rw [if_neg h1, if_neg h2, if_pos h3]
    exact .inr (.inl ⟨e, e, h3, rfl⟩)
  by_cases h4 : dgc c0 = true
  · have e : bgn c0 = 2 := by unfold bgn; rw [if_neg h1, if_neg h2, if_neg h3, if_pos h4]
    exact .inr (.inr (.inl ⟨e, e, h4, h3, noin, by omega⟩))
  by_cases h5 : c0 = 34
  · have e : bgn c0 = 3 := by unfold bgn; rw [if_neg h1, if_neg h2, if_neg h3, if_neg h4, if_pos h5]
    exact .inr (.inr (.inr (.inl ⟨e, e, h5, [], by rw [seg_nil]; rfl, (pre_nil _).symm⟩)))
  · have e : bgn c0 = 5 := by unfold bgn; rw [if_neg h1, if_neg h2, if_neg h3, if_neg h4, if_neg h5]
    exact .inr (.inr (.inr (.inr (.inr ⟨e, e, rfl⟩))))
/-- a name that ends at j -/
theorem name_end {j : Nat} (h : (cs z)[k]? = some c0) (hb : bgn c0 = 0) (hs : smc c0 = true) (h1 : k < j) (h2 : j ≤ z.length) (hin : ∀ i c, k + 1 ≤ i → i < j → (cs z)[i]? = some c → nmc c = true) (h12 : j - k ≤ 12) (off : ∀ c, (cs z)[j]? = some c → nmc c = false) :
    wordR z k = .ok (madeR 0 (cut z k j)).1 (madeR 0 (cut z k j)).2 j := by
  rw [word_bgn h, hb, if_neg (by decide), if_pos rfl]
  unfold nameR
  rw [h]
  dsimp only
  rw [if_pos hs, run_eq (show k + 1 ≤ j from h1) (by rw [cs_len]; exact h2) hin off, if_neg (by omega)]
  rfl
theorem num_end {j : Nat} (h : (cs z)[k]? = some c0) (hb : bgn c0 = 2) (hs : dgc c0 = true) (h0 : c0 ≠ 48) (h1 : k < j) (h2 : j ≤ z.length) (hin : ∀ i c, k + 1 ≤ i → i < j → (cs z)[i]? = some c → dgc c = true) (h9 : j - k ≤ 9) (off : j - k < 9 → ∀ c, (cs z)[j]? = some c → dgc c = false) :
    wordR z k = .ok (madeR 2 (cut z k j)).1 (madeR 2 (cut z k j)).2 j ∧ MadeOk 2 (cut z k j) := by
  have lo : j ≤ runE dgc (cs z) (k + 1) := by
    rcases Nat.lt_or_ge (runE dgc (cs z) (k + 1)) j with g | g
    · have hl : runE dgc (cs z) (k + 1) < (cs z).length := by rw [cs_len]; omega
      have a := run_off (f := dgc) (k := k + 1) (List.getElem?_eq_getElem hl)
      have b := hin _ _ (run_ge dgc (cs z) (k + 1)) g (List.getElem?_eq_getElem hl)
      rw [a] at b
      cases b
    · exact g
  have e : numE z k = j := by
    unfold numE
    rw [h, if_neg (fun e => h0 (Option.some.inj e))]
    rcases Nat.lt_or_ge (j - k) 9 with g | g
    · rw [run_eq (show k + 1 ≤ j from h1) (by rw [cs_len]; exact h2) hin (off g)]
      omega
    · omega
  have nt := num_text h hs
  rw [e] at nt
  refine ⟨?_, .inr (.inl ⟨.inr rfl, nt⟩)⟩
  rw [word_bgn h, hb, if_neg (by decide), if_neg (by decide), if_pos (.inr rfl)]
  unfold numR
  rw [h]
  dsimp only
  rw [if_pos hs, e]
  rfl
theorem nought_end (h : (cs z)[k]? = some c0) (hb : bgn c0 = 1) (hs : c0 = 48) : wordR z k = .ok (madeR 1 (cut z k (k + 1))).1 (madeR 1 (cut z k (k + 1))).2 (k + 1) ∧ MadeOk 1 (cut z k (k + 1)) := by
  have hd : dgc c0 = true := by rw [hs]; decide
  have e : numE z k = k + 1 := by
    unfold numE
    rw [h, hs, if_pos rfl]
  have nt := num_text h hd
  rw [e] at nt
  refine ⟨?_, .inr (.inl ⟨.inl rfl, nt⟩)⟩
  rw [word_bgn h, hb, if_neg (by decide), if_neg (by decide), if_pos (.inl rfl)]
  unfold numR
  rw [h]
  dsimp only
  rw [if_pos hd, e]
  rfl
theorem sign_end (h : (cs z)[k]? = some c0) (hb : bgn c0 = 5) : wordR z k = .ok (madeR 5 (cut z k (k + 1))).1 (madeR 5 (cut z k (k + 1))).2 (k + 1) := by
  have e : cut z k (k + 1) = ⟨#[c0]⟩ := cs_ext (by rw [cut_seg, seg_succ (Nat.le_refl k) h, seg_nil]; rfl)
  rw [word_bgn h, hb, e, if_neg (by decide), if_neg (by decide), if_neg (by decide), if_neg (by decide)]
  rfl
theorem text_bad {p : Nat} (h : (cs z)[k]? = some c0) (hb : bgn c0 = 3) (hs : c0 = 34) (hp : scanT ((cs z).drop (k + 1)) (k + 1) = .bad p) : wordR z k = .bad p := by
  rw [word_bgn h, hb, if_neg (by decide), if_neg (by decide), if_neg (by decide), if_pos rfl]
  unfold textR
  rw [h]
  dsimp only
  rw [if_pos hs, hp]
  rfl
theorem text_ok {j : Nat} {o : List Nat} (h : (cs z)[k]? = some c0) (hb : bgn c0 = 3) (hs : c0 = 34) (h1 : k < j) (hj : (cs z)[j]? = some 34) (hm : mach (seg (cs z) (k + 1) j) = (false, o)) (hp : scanT ((cs z).drop (k + 1)) (k + 1) = .ok o (j + 1)) :
    wordR z k = .ok (madeR 3 (cut z k (j + 1))).1 (madeR 3 (cut z k (j + 1))).2 (j + 1) ∧ MadeOk 3 (cut z k (j + 1)) := by
  have jl : j < z.length := by rw [← cs_len]; exact (List.getElem?_eq_some_iff.mp hj).1
  have cl := cut_len' (z := z) (a := k) (b := j + 1) jl
  refine ⟨?_, .inr (.inr ⟨rfl, by omega⟩)⟩
  have em : madeR 3 (cut z k (j + 1)) = (tagT, .str ⟨o.toArray⟩) := by
    unfold madeR
    rw [if_neg (by decide), if_neg (by decide), ← cs_len, cut_seg, seg_in (by omega) (by rw [cs_len]; exact jl), show j + 1 - 1 = j by omega, hm]
  rw [em, word_bgn h, hb, if_neg (by decide), if_neg (by decide), if_neg (by decide), if_pos rfl]
  unfold textR
  rw [h]
  dsimp only
  rw [if_pos hs, hp]
  rfl
theorem drop_c {l : List Nat} {p c : Nat} (h : l[p]? = some c) : l.drop p = c :: l.drop (p + 1) := by
  obtain ⟨hp, rfl⟩ := List.getElem?_eq_some_iff.mp h
  exact List.drop_eq_getElem_cons hp
theorem inv_step {w j c : Nat} (I : InvO z k w j) (hc : (cs z)[j]? = some c) :
    (onR w (j - k) c = 6 ∧ wordR z k = .bad j) ∨ (onR w (j - k) c = 7 ∧ wordR z k = .ok (madeR w (cut z k j)).1 (madeR w (cut z k j)).2 j ∧ MadeOk w (cut z k j)) ∨
    (onR w (j - k) c = 8 ∧ wordR z k = .ok (madeR 3 (cut z k (j + 1))).1 (madeR 3 (cut z k (j + 1))).2 (j + 1) ∧ MadeOk 3 (cut z k (j + 1))) ∨ (onR w (j - k) c ≤ 5 ∧ InvO z k (onR w (j - k) c) (j + 1)) := by
  obtain ⟨c0, h, h1, h2, I⟩ := I
  have jl : j < z.length := by rw [← cs_len]; exact (List.getElem?_eq_some_iff.mp hc).1
  have more : ∀ {f : Nat → Bool}, (∀ i c, k + 1 ≤ i → i < j → (cs z)[i]? = some c → f c = true) → f c = true → ∀ i c, k + 1 ≤ i → i < j + 1 → (cs z)[i]? = some c → f c = true := fun {f} hin hf i d g1 g2 g3 => by
    rcases Nat.lt_or_ge i j with g | g
    · exact hin i d g1 g g3
    · rw [show i = j by omega, hc] at g3
      cases g3
      exact hf
  rcases I with ⟨rfl, hb, hs, hin, h12⟩ | ⟨rfl, hb, hs, rfl⟩ | ⟨rfl, hb, hs, h0, hin, h9⟩ | ⟨rfl, hb, hs, o, hm, hsc⟩ | ⟨rfl, hb, hs, h22, o, hm, hsc⟩ | ⟨rfl, hb, rfl⟩
  · by_cases hn : nmc c = true
    · by_cases h' : j - k = 12
      · refine .inl ⟨by unfold onR; rw [if_pos ⟨rfl, hn⟩, if_pos h'], ?_⟩
        rw [word_bgn h, hb, if_neg (by decide), if_pos rfl]
        unfold nameR
        rw [h]
        dsimp only
        have lo : j < runE nmc (cs z) (k + 1) := by
          rcases Nat.lt_or_ge j (runE nmc (cs z) (k + 1)) with g | g
          · exact g
          · have hl : runE nmc (cs z) (k + 1) < (cs z).length := by rw [cs_len]; omega
            have a := run_off (f := nmc) (k := k + 1) (List.getElem?_eq_getElem hl)
            have b := more hin hn _ _ (run_ge nmc (cs z) (k + 1)) (by omega) (List.getElem?_eq_getElem hl)
            rw [a] at b
            cases b
        rw [if_pos hs, if_pos (by omega), show k + 12 = j by omega]
      · have e : onR 0 (j - k) c = 0 := by unfold onR; rw [if_pos ⟨rfl, hn⟩, if_neg h']
        refine .inr (.inr (.inr ⟨by rw [e]; decide, ?_⟩))
        rw [e]
        exact ⟨c0, h, by omega, jl, .inl ⟨rfl, hb, hs, more hin hn, by omega⟩⟩
    · have e : onR 0 (j - k) c = 7 := by unfold onR; rw [if_neg (fun g => hn g.2), if_neg (by simp), if_neg (by decide), if_neg (by decide)]
      exact .inr (.inl ⟨e, name_end h hb hs h1 h2 hin h12 (fun d hd => by rw [hc] at hd; cases hd; simpa using hn), .inl (.inl rfl)⟩)
  · have e : onR 1 (k + 1 - k) c = 7 := by unfold onR; rw [if_neg (by simp), if_neg (by simp), if_neg (by decide), if_neg (by decide)]
    exact .inr (.inl ⟨e, nought_end h hb hs⟩)
  · by_cases hn : dgc c = true ∧ j - k < 9
    · have e : onR 2 (j - k) c = 2 := by unfold onR; rw [if_neg (by simp), if_pos ⟨rfl, hn⟩]
      refine .inr (.inr (.inr ⟨by rw [e]; decide, ?_⟩))
      rw [e]
      exact ⟨c0, h, by omega, jl, .inr (.inr (.inl ⟨rfl, hb, hs, h0, more hin hn.1, by omega⟩))⟩
    · have e : onR 2 (j - k) c = 7 := by unfold onR; rw [if_neg (by simp), if_neg (fun g => hn g.2), if_neg (by decide), if_neg (by decide)]
      refine .inr (.inl ⟨e, num_end h hb hs h0 h1 h2 hin h9 (fun g d hd => ?_)⟩)
      rw [hc] at hd
      cases hd
      cases e2 : dgc c with
      | false => rfl
      | true => exact absurd ⟨e2, g⟩ hn
  · have e : onR 3 (j - k) c = (if c = 10 then 6 else if c = 92 then 4 else if c = 34 then 8 else 3) := by unfold onR; rw [if_neg (by simp), if_neg (by simp), if_neg (by decide), if_pos rfl]
    rw [e]
    by_cases c1 : c = 10
    · rw [if_pos c1]
      exact .inl ⟨rfl, text_bad h hb hs (by rw [hsc, drop_c hc, c1, scan_f]; rfl)⟩
    rw [if_neg c1]
    by_cases c2 : c = 92
    · rw [if_pos c2]
      refine .inr (.inr (.inr ⟨by decide, c0, h, by omega, jl, .inr (.inr (.inr (.inr (.inl ⟨rfl, hb, hs, by omega, o, ?_, ?_⟩))))⟩))
      · rw [seg_succ (by omega) hc, mach_snoc, hm, c2]
        rfl
      · rw [hsc, drop_c hc, c2, show j + 1 - 1 = j by omega]
    rw [if_neg c2]
    by_cases c3 : c = 34
    · rw [if_pos c3]
      refine .inr (.inr (.inl ⟨rfl, text_ok h hb hs h1 (by rw [hc, c3]) hm ?_⟩))
      rw [hsc, drop_c hc, c3, scan_q]
      show TRes.ok (o ++ []) _ = _
      rw [List.append_nil]
    · rw [if_neg c3]
      refine .inr (.inr (.inr ⟨by decide, c0, h, by omega, jl, .inr (.inr (.inr (.inl ⟨rfl, hb, hs, o ++ [c], ?_, ?_⟩)))⟩))
      · rw [seg_succ (by omega) hc, mach_snoc, hm]
        unfold mst
        rw [if_neg (show ¬ (false = true) by decide), if_neg c2]
      · rw [hsc, drop_c hc, scan_c c3 c1 c2, pre_cons]
  · have e : onR 4 (j - k) c = (if c = 92 ∨ c = 34 ∨ c = 110 then 3 else 6) := by unfold onR; rw [if_neg (by simp), if_neg (by simp), if_pos rfl]
    rw [e]
    by_cases c1 : c = 92 ∨ c = 34 ∨ c = 110
    · rw [if_pos c1]
      have sc : scanT (92 :: (cs z).drop j) (j - 1) = (scanT ((cs z).drop (j + 1)) (j + 1)).cons (if c = 110 then 10 else c) := by
        rw [drop_c hc]
        by_cases c2 : c = 110
        · rw [c2, scan_bn, if_pos rfl, show j - 1 + 2 = j + 1 by omega]
        · rw [if_neg c2, scan_bs (by rcases c1 with g | g | g; exact .inl g; exact .inr g; exact absurd g c2), show j - 1 + 2 = j + 1 by omega]
      refine .inr (.inr (.inr ⟨by decide, c0, h, by omega, jl, .inr (.inr (.inr (.inl ⟨rfl, hb, hs, o ++ [if c = 110 then 10 else c], ?_, ?_⟩)))⟩))
      · rw [seg_succ (by omega) hc, mach_snoc, hm]
        rfl
      · rw [hsc, sc, pre_cons]
    · rw [if_neg c1]
      refine .inl ⟨rfl, text_bad h hb hs ?_⟩
      rw [hsc, drop_c hc, scan_bx (fun g => c1 (.inr (.inr g))) (fun g => c1 (g.elim .inl fun g => .inr (.inl g))), show j - 1 + 1 = j by omega]
      rfl
  · have e : onR 5 (k + 1 - k) c = 7 := by unfold onR; rw [if_neg (by simp), if_neg (by simp), if_neg (by decide), if_neg (by decide)]
    exact .inr (.inl ⟨e, sign_end h hb, .inl (.inr rfl)⟩)
theorem inv_end {w : Nat} (I : InvO z k w z.length) : ((w = 3 ∨ w = 4) ∧ wordR z k = .bad z.length) ∨ (w ≠ 3 ∧ w ≠ 4 ∧ wordR z k = .ok (madeR w (cut z k z.length)).1 (madeR w (cut z k z.length)).2 z.length ∧ MadeOk w (cut z k z.length)) := by
  obtain ⟨c0, h, h1, h2, I⟩ := I
  have no : ∀ c, (cs z)[z.length]? ≠ some c := fun c e => by
    have := (List.getElem?_eq_some_iff.mp e).1
    rw [cs_len] at this
    omega
  have dn : (cs z).drop z.length = [] := List.drop_eq_nil_of_le (by rw [cs_len]; exact Nat.le_refl _)
  rcases I with ⟨rfl, hb, hs, hin, h12⟩ | ⟨rfl, hb, hs, e⟩ | ⟨rfl, hb, hs, h0, hin, h9⟩ | ⟨rfl, hb, hs, o, hm, hsc⟩ | ⟨rfl, hb, hs, h22, o, hm, hsc⟩ | ⟨rfl, hb, e⟩
  · exact .inr ⟨by decide, by decide, name_end h hb hs h1 h2 hin h12 (fun d hd => absurd hd (no d)), .inl (.inl rfl)⟩
  · rw [e]
    exact .inr ⟨by decide, by decide, nought_end h hb hs⟩
  · exact .inr ⟨by decide, by decide, num_end h hb hs h0 h1 h2 hin h9 (fun _ d hd => absurd hd (no d))⟩
  · exact .inl ⟨.inl rfl, text_bad h hb hs (by rw [hsc, dn, scan_nil]; rfl)⟩
  · exact .inl ⟨.inr rfl, text_bad h hb hs (by rw [hsc, dn, scan_b0, show z.length - 1 + 1 = z.length by omega]; rfl)⟩
  · rw [e]
    exact .inr ⟨by decide, by decide, sign_end h hb, .inl (.inr rfl)⟩
end
end Q18

namespace K18
open PySem PySem.Spec PyProof.Rows L2 Dk Q18
/-- one step of a reading -/
local macro_rules | `(tactic| walk_at "rd1") => `(tactic| first
  | ((with_reducible refine r_var (v := ?rv) ?rh ?_); (case rh => rfl))
  | with_reducible refine r_c ?_
  | with_reducible refine r_seq ?_
  | with_reducible refine r_asg ?_
  | with_reducible refine r_par ?_
  | with_reducible refine r_gname ?_
  | with_reducible refine r_op ?_
  | with_reducible refine r_forLo ?_
  | with_reducible refine r_forTo ?_
  | with_reducible refine r_forSo ?_
  | with_reducible refine r_forRo ?_
  | with_reducible refine r_forRvo ?_
  | with_reducible refine r_forZo ?_
  | with_reducible refine r_revS ?_
  | with_reducible refine r_lcRo ?_
  | with_reducible refine r_lcLo ?_
  | with_reducible refine r_yes ?_
  | with_reducible refine r_callK0 ?_
  | with_reducible refine r_break ?_
  | with_reducible refine r_continue ?_
  | with_reducible refine r_forR2o ?_
  | with_reducible refine r_forEo ?_
  | with_reducible refine r_forESo ?_
  | with_reducible refine r_xfo ?_
  | with_reducible refine r_noP ?_
  | with_reducible refine r_part ?_
  | with_reducible refine r_pI ?_
  | with_reducible refine r_gcons ?_
  | with_reducible refine r_gnil ?_
  | with_reducible refine r_mkO ?_
  | with_reducible refine r_un ?_
  | with_reducible refine r_addI ?_
  | with_reducible refine r_I0 ?_
  | with_reducible refine r_U ?_
  | with_reducible refine r_cons ?_
  | with_reducible refine r_nil ?_
  | with_reducible refine r_CB ?_
  | with_reducible refine r_call ?_
  | with_reducible refine r_callS ?_
  | with_reducible refine r_int ?_
  | with_reducible refine r_max ?_
  | with_reducible refine r_min ?_
  | with_reducible refine r_test ?_
  | with_reducible refine r_B ?_
  | with_reducible refine r_blv ?_
  | with_reducible refine r_and ?_
  | with_reducible refine r_or ?_
  | with_reducible refine r_not ?_
  | with_reducible refine r_andV ?_
  | with_reducible refine r_orV ?_
  | with_reducible refine r_notV ?_
  | with_reducible refine r_ifE ?_
  | with_reducible refine r_ifS ?_
  | with_reducible refine r_ret ?_
  | with_reducible refine r_retN ?_
  | with_reducible refine r_drop ?_
  | with_reducible refine r_next ?_
  | with_reducible refine r_sl ?_
  | with_reducible refine r_gsub ?_
  | with_reducible refine r_bm ?_
  | with_reducible refine r_bm0 ?_
  | with_reducible refine r_tup ?_
  | with_reducible refine r_lst ?_
  | with_reducible refine r_isN ?_
  | with_reducible refine r_notN ?_
  | with_reducible refine r_chain ?_
  | with_reducible refine r_callK ?_
  | with_reducible refine r_isB ?_
  | with_reducible refine r_lcEio ?_
  | with_reducible refine r_forEi ?_
  | with_reducible refine r_lcTo ?_
  | with_reducible refine r_lcSo ?_
  | with_reducible refine r_m1 ?_
  | with_reducible refine r_dget ?_
  | with_reducible refine r_din ?_
  | with_reducible refine r_dnotin ?_
  | with_reducible refine r_starC ?_
  | with_reducible refine r_callKS ?_
  | with_reducible refine r_itt ?_
  | with_reducible refine r_iff ?_
  | with_reducible refine r_ittN ?_
  | with_reducible refine r_iffN ?_
  | ((with_reducible refine r_ittD ?rh ?_); (case rh => rfl))
  | ((with_reducible refine r_iffD ?rh ?_); (case rh => rfl))
  | ((with_reducible refine r_modP ?rh ?_); (case rh => decide))
  | ((with_reducible refine r_eq ?rh ?_); (case rh => rfl))
  | ((with_reducible refine r_eqP ?rh ?_); (case rh => rfl))
  | ((with_reducible refine r_ne ?rh ?_); (case rh => rfl)))
local macro_rules | `(tactic| walk_at "rd") => `(tactic| repeat walk_at "rd1")
local macro_rules | `(tactic| walk_at "isi") => `(tactic| first | refine r_isi (b := true) (by assumption) (by decide +kernel) ?_ | refine r_isi (b := false) (by assumption) (by decide +kernel) ?_)
local macro_rules | `(tactic| walk_at "rs1") => `(tactic| first
  | with_reducible refine r_seq ?_
  | with_reducible refine r_asg ?_
  | with_reducible refine r_gname ?_
  | with_reducible refine r_ret ?_)
local macro_rules | `(tactic| walk_at "rs") => `(tactic| repeat walk_at "rs1")

def spBegun : Sp := fun vs H Q _ => ∃ c : Nat, vs = [.str ⟨#[c]⟩] ∧ Q (.str (rsS (bgn c))) H
def spOn : Sp := fun vs H Q _ => ∃ (w c : Nat) (h : Str), vs = [.str (rsS w), .str h, .str ⟨#[c]⟩] ∧ w ≤ 5 ∧ h.length ≤ 6000 ∧ Q (.str (rsS (onR w h.length c))) H
def spMade : Sp := fun vs H Q _ => ∃ (w : Nat) (h : Str), vs = [.str (rsS w), .str h] ∧ MadeOk w h ∧ w ≤ 5 ∧ h.length ≤ 6000 ∧ ∀ x H', Ex H H' → W2 H' x (madeR w h) → Q x H'
theorem bk_mem (c : Nat) : (c ∈ (Str.ofString " \n").cps.toList) ↔ c = 32 ∨ c = 10 := by
  rw [show (Str.ofString " \n").cps.toList = [32, 10] by decide +kernel]
  simp
theorem es_mem (c : Nat) : (c ∈ (Str.ofString "\\\"n").cps.toList) ↔ c = 92 ∨ c = 34 ∨ c = 110 := by
  rw [show (Str.ofString "\\\"n").cps.toList = [92, 34, 110] by decide +kernel]
  simp
theorem d9_mem (c : Nat) : (c ∈ (Str.ofString "123456789").cps.toList) ↔ dgc c = true ∧ c ≠ 48 := by
  rw [show (Str.ofString "123456789").cps.toList = List.range' 49 9 by decide +kernel, List.mem_range'_1]
  unfold dgc
  simp
  omega
theorem get_n (c : Nat) : (valV (mergeK [] [((.inr (Str.ofString "n") : Key), V.str (Str.ofString "\n"))]) (.inr ⟨#[c]⟩)).getD (.str ⟨#[c]⟩) = .str ⟨#[if c = 110 then 10 else c]⟩ := by
  have e : mergeK [] [((.inr (Str.ofString "n") : Key), V.str (Str.ofString "\n"))] = [(.inr (Str.ofString "n"), V.str (Str.ofString "\n"))] := rfl
  rw [e]
  by_cases h : c = 110
  · rw [valV_pos (by rw [nS, h]), if_pos h, feedS']
    rfl
  · rw [valV_neg (fun g => h (by
      have g := Sum.inr.inj g
      rw [nS, tlS] at g
      exact g.symm)), valV_nil, if_neg h]
    rfl
section
variable {P : Program} {w : World} {K : PySem.W.Frag} {mg : Str → Option Value} {base : Heap}
theorem ok_law_begun (T : Txt K mg) : FnOk P w K mg base CX0 2 T.a_law_begun T.d_law_begun ["_law_sign"] spBegun := by
  refine T.F_law_begun.ok sc_law_begun (fun vs H Q E h => ?_) (fun cdv A outer s H vs Q E hr h => ?_)
  · obtain ⟨c, rfl, _⟩ := h
    rfl
  · obtain ⟨c, rfl, q⟩ := h
    refine ⟨_, (pss_cons (ps_if (pt_cmpR op_inU (pv 0) pe_str (by rfl)) (pss_one (ps_ret pe_str)) pss_nil)
        (pss_cons (ps_if (pt_cmpR op_inU (pv 0) (pe_call0 (ok_law_small T) hr (by rfl) T.g_law_small T.F_law_small.kp T.b_law_small .nil pass0) (by rfl)) (pss_one (ps_ret pe_str)) pss_nil)
        (pss_cons (ps_if (pt_cmpR (op_eqU hr.units) (pv 0) pe_str (nomark _)) (pss_one (ps_ret pe_str)) pss_nil)
        (pss_cons (ps_if (pt_cmpR op_inU (pv 0) pe_str (by rfl)) (pss_one (ps_ret pe_str)) pss_nil)
        (pss_cons (ps_if (pt_cmpR (op_eqU hr.units) (pv 0) pe_str (nomark _)) (pss_one (ps_ret pe_str)) pss_nil)
        (pss_one (ps_ret pe_str))))))), ?_⟩
    walk_at "rd"
    refine r_inS ?_
    walk_at "rd"
    refine r_ite (fun h => ?_) (fun h => ?_)
    · have h := (bk_mem c).mp h
      rw [show bgn c = 6 by unfold bgn; rw [if_pos h]] at q
      walk_at "rd"
      exact q
    have h : ¬ (c = 32 ∨ c = 10) := fun g => h ((bk_mem c).mpr g)
    walk_at "rd"
    refine ⟨rfl, ?_⟩
    walk_at "rd"
    refine r_inS ?_
    walk_at "rd"
    refine r_ite (fun h2 => ?_) (fun h2 => ?_)
    · have h2 := (sm_mem c).mp h2
      rw [show bgn c = 0 by unfold bgn; rw [if_neg h, if_pos h2]] at q
      walk_at "rd"
      exact q
    have h2 : ¬ smc c = true := fun g => h2 ((sm_mem c).mpr g)
    walk_at "rd"
    refine r_ite (fun h3 => ?_) (fun h3 => ?_)
    · have h3 : c = 48 := by
        have g := V.str.inj h3
        rw [zeroS, tlS] at g
        exact g
      rw [show bgn c = 1 by unfold bgn; rw [if_neg h, if_neg h2, if_pos h3]] at q
      walk_at "rd"
      exact q
    have h3 : ¬ c = 48 := fun g => h3 (by rw [zeroS, g])
    walk_at "rd"
    refine r_inS ?_
    walk_at "rd"
    refine r_ite (fun h4 => ?_) (fun h4 => ?_)
    · have h4 := ((d9_mem c).mp h4).1
      rw [show bgn c = 2 by unfold bgn; rw [if_neg h, if_neg h2, if_neg h3, if_pos h4]] at q
      walk_at "rd"
      exact q
    have h4 : ¬ dgc c = true := fun g => h4 ((d9_mem c).mpr ⟨g, h3⟩)
    walk_at "rd"
    refine r_ite (fun h5 => ?_) (fun h5 => ?_)
    · have h5 : c = 34 := by
        have g := V.str.inj h5
        rw [quoteS, tlS] at g
        exact g
      rw [show bgn c = 3 by unfold bgn; rw [if_neg h, if_neg h2, if_neg h3, if_neg h4, if_pos h5]] at q
      walk_at "rd"
      exact q
    have h5 : ¬ c = 34 := fun g => h5 (by rw [quoteS, g])
    rw [show bgn c = 5 by unfold bgn; rw [if_neg h, if_neg h2, if_neg h3, if_neg h4, if_neg h5]] at q
    walk_at "rd"
    exact q
theorem ok_law_on (T : Txt K mg) : FnOk P w K mg base CX0 2 T.a_law_on T.d_law_on ["_law_way", "_law_held", "_law_sign"] spOn := by
  refine T.F_law_on.ok sc_law_on (fun vs H Q E h => ?_) (fun cdv A outer s H vs Q E hr h => ?_)
  · obtain ⟨w, c, h, rfl, _⟩ := h
    rfl
  · obtain ⟨w, c, hd, rfl, hw, hl, q⟩ := h
    refine ⟨_, (pss_cons (ps_if (PW.pt (pw_and (pt_cmpR (op_eqU hr.units) (pv 0) pe_str (nomark _)) (pw_and1 (PW.pt (pw_or (pt_cmpR op_inU (pv 2) (pe_call0 (ok_law_small T) hr (by rfl) T.g_law_small T.F_law_small.kp T.b_law_small .nil pass0) (by rfl)) (pw_or1 (pt_cmpR op_inU (pv 2) pe_str (by rfl)))))))) (pss_cons (ps_if (pt_cmpR (op_eqU hr.units) (pe_callB call_lenU (by rfl) T.n_len (by decide +kernel) (pa_cons (pv 1) pa_nil)) pe_int (nomark _)) (pss_one (ps_ret pe_str)) pss_nil)
        (pss_one (ps_ret pe_str))) pss_nil)
        (pss_cons (ps_if (PW.pt (pw_and (pt_cmpR (op_eqU hr.units) (pv 0) pe_str (nomark _)) (pw_and (pt_cmpR op_inU (pv 2) pe_str (by rfl)) (pw_and1 (pt_cmpR op_lt (pe_callB call_lenU (by rfl) T.n_len (by decide +kernel) (pa_cons (pv 1) pa_nil)) pe_int (nomark _)))))) (pss_one (ps_ret pe_str)) pss_nil)
        (pss_cons (ps_if (PW.pt (pw_or (pt_cmpR (op_eqU hr.units) (pv 0) pe_str (nomark _)) (pw_or1 (pt_cmpR (op_eqU hr.units) (pv 0) pe_str (nomark _))))) (pss_cons (ps_if (pt_cmpR (op_eqU hr.units) (pv 0) pe_str (nomark _)) (pss_cons (ps_if (pt_cmpR op_inU (pv 2) pe_str (by rfl)) (pss_one (ps_ret pe_str)) pss_nil)
        (pss_one (ps_ret pe_str))) pss_nil)
        (pss_cons (ps_if (pt_cmpR (op_eqU hr.units) (pv 2) pe_str (nomark _)) (pss_one (ps_ret pe_str)) pss_nil)
        (pss_cons (ps_if (pt_cmpR (op_eqU hr.units) (pv 2) pe_str (nomark _)) (pss_one (ps_ret pe_str)) pss_nil)
        (pss_cons (ps_if (pt_cmpR (op_eqU hr.units) (pv 2) pe_str (nomark _)) (pss_one (ps_ret pe_str)) pss_nil)
        (pss_one (ps_ret pe_str)))))) pss_nil)
        (pss_one (ps_ret pe_str))))), ?_⟩
    have zl : hd.length ≤ sizeLine := by rw [sizeLine_eq]; omega
    have w0 : ∀ {b : Nat}, b ≤ 8 → w ≠ b → ¬ V.str (rsS w) = V.str (rsS b) := fun hb n e => n (rs_inj (by omega) hb (V.str.inj e))
    have w6 : w = 0 ∨ w = 1 ∨ w = 2 ∨ w = 3 ∨ w = 4 ∨ w = 5 := by omega
    rcases w6 with rfl | rfl | rfl | rfl | rfl | rfl
    · have off : nmc c = false → onR 0 hd.length c = 7 := fun g => by unfold onR; rw [if_neg (fun z => by rw [g] at z; cases z.2), if_neg (by simp), if_neg (by decide), if_neg (by decide)]
      have on : nmc c = true → onR 0 hd.length c = if hd.length = 12 then 6 else 0 := fun g => by unfold onR; rw [if_pos ⟨rfl, g⟩]
      walk_at "rd"
      refine ⟨rfl, ?_⟩
      walk_at "rd"
      refine r_inS ?_
      walk_at "rd"
      refine r_ite (fun g1 => ?_) (fun g1 => ?_)
      · have g1 := (sm_mem c).mp g1
        rw [on (by unfold nmc; rw [g1]; rfl)] at q
        walk_at "rd"
        refine r_lenS zl ?_
        walk_at "rd"
        refine r_ite (fun h => ?_) (fun h => ?_)
        · have h := V.int.inj h
          rw [if_pos (by omega)] at q
          walk_at "rd"
          exact q
        · rw [if_neg (fun g => h (by rw [g]; rfl))] at q
          walk_at "rd"
          exact q
      have g1 : smc c = false := by
        cases e : smc c with
        | false => rfl
        | true => exact absurd ((sm_mem c).mpr e) g1
      walk_at "rd"
      refine r_inS ?_
      walk_at "rd"
      refine r_ite (fun g2 => ?_) (fun g2 => ?_)
      · have g2 := (dg_mem c).mp g2
        rw [on (by unfold nmc; rw [g1, g2]; rfl)] at q
        walk_at "rd"
        refine r_lenS zl ?_
        walk_at "rd"
        refine r_ite (fun h => ?_) (fun h => ?_)
        · have h := V.int.inj h
          rw [if_pos (by omega)] at q
          walk_at "rd"
          exact q
        · rw [if_neg (fun g => h (by rw [g]; rfl))] at q
          walk_at "rd"
          exact q
      have g2 : dgc c = false := by
        cases e : dgc c with
        | false => rfl
        | true => exact absurd ((dg_mem c).mpr e) g2
      rw [off (by unfold nmc; rw [g1, g2]; rfl)] at q
      walk_at "rd"
      exact q
    · rw [show onR 1 hd.length c = 7 by unfold onR; rw [if_neg (by simp), if_neg (by simp), if_neg (by decide), if_neg (by decide)]] at q
      walk_at "rd"
      exact q
    · have off : ¬ (dgc c = true ∧ hd.length < 9) → onR 2 hd.length c = 7 := fun g => by unfold onR; rw [if_neg (by simp), if_neg (fun z => g z.2), if_neg (by decide), if_neg (by decide)]
      have on : dgc c = true ∧ hd.length < 9 → onR 2 hd.length c = 2 := fun g => by unfold onR; rw [if_neg (by simp), if_pos ⟨rfl, g⟩]
      walk_at "rd"
      refine r_inS ?_
      walk_at "rd"
      refine r_ite (fun g1 => ?_) (fun g1 => ?_)
      · have g1 := (dg_mem c).mp g1
        walk_at "rd"
        refine r_lenS zl ?_
        walk_at "rd"
        refine r_ite (fun g2 => ?_) (fun g2 => ?_)
        · rw [on ⟨g1, by omega⟩] at q
          walk_at "rd"
          exact q
        · rw [off (fun g => g2 (by omega))] at q
          walk_at "rd"
          exact q
      · rw [off (fun g => g1 ((dg_mem c).mpr g.1))] at q
        walk_at "rd"
        exact q
    · rw [show onR 3 hd.length c = (if c = 10 then 6 else if c = 92 then 4 else if c = 34 then 8 else 3) by unfold onR; rw [if_neg (by simp), if_neg (by simp), if_neg (by decide), if_pos rfl]] at q
      walk_at "rd"
      refine r_ite (fun h => ?_) (fun h => ?_)
      · have h : c = 10 := by
          have g := V.str.inj h
          rw [feedS', tlS] at g
          exact g
        rw [if_pos h] at q
        walk_at "rd"
        exact q
      rw [if_neg (fun g => h (by rw [feedS', g]))] at q
      walk_at "rd"
      refine r_ite (fun h => ?_) (fun h => ?_)
      · have h : c = 92 := by
          have g := V.str.inj h
          rw [backS, tlS] at g
          exact g
        rw [if_pos h] at q
        walk_at "rd"
        exact q
      rw [if_neg (fun g => h (by rw [backS, g]))] at q
      walk_at "rd"
      refine r_ite (fun h => ?_) (fun h => ?_)
      · have h : c = 34 := by
          have g := V.str.inj h
          rw [quoteS, tlS] at g
          exact g
        rw [if_pos h] at q
        walk_at "rd"
        exact q
      rw [if_neg (fun g => h (by rw [quoteS, g]))] at q
      walk_at "rd"
      exact q
    · rw [show onR 4 hd.length c = (if c = 92 ∨ c = 34 ∨ c = 110 then 3 else 6) by unfold onR; rw [if_neg (by simp), if_neg (by simp), if_pos rfl]] at q
      walk_at "rd"
      refine r_inS ?_
      walk_at "rd"
      refine r_ite (fun h => ?_) (fun h => ?_)
      · rw [if_pos ((es_mem c).mp h)] at q
        walk_at "rd"
        exact q
      · rw [if_neg (fun g => h ((es_mem c).mpr g))] at q
        walk_at "rd"
        exact q
    · rw [show onR 5 hd.length c = 7 by unfold onR; rw [if_neg (by simp), if_neg (by simp), if_neg (by decide), if_neg (by decide)]] at q
      walk_at "rd"
      exact q
theorem ok_law_made (T : Txt K mg) : FnOk P w K mg base CX0 1 T.a_law_made T.d_law_made ["_law_way", "_law_held"] spMade := by
  refine T.F_law_made.ok sc_law_made (fun vs H Q E h => ?_) (fun cdv A outer s H vs Q E hr h => ?_)
  · obtain ⟨w, h, rfl, _⟩ := h
    rfl
  · obtain ⟨w, hd, rfl, hm, hw, hl, q⟩ := h
    refine ⟨_, (pss_cons (ps_if (PW.pt (pw_or (pt_cmpR (op_eqU hr.units) (pv 0) pe_str (nomark _)) (pw_or1 (pt_cmpR (op_eqU hr.units) (pv 0) pe_str (nomark _))))) (pss_one (ps_ret (pe_tup (pa_cons (pv 0) (pa_cons (pv 1) pa_nil))))) pss_nil)
        (pss_cons (ps_if (PW.pt (pw_or (pt_cmpR (op_eqU hr.units) (pv 0) pe_str (nomark _)) (pw_or1 (pt_cmpR (op_eqU hr.units) (pv 0) pe_str (nomark _))))) (pss_one (ps_ret (pe_tup (pa_cons pe_str (pa_cons (pe_callTy call_int_str (by rfl) T.n_int (by decide +kernel) (pa_cons (pv 1) pa_nil)) pa_nil))))) pss_nil)
        (pss_cons (ps_set (i := 2) sc_law_made.nd rfl (Or.inl rfl) (pe_lst pa_nil))
        (pss_cons (ps_set (i := 3) sc_law_made.nd rfl (Or.inl rfl) pe_bl)
        (pss_cons (ps_for PassesOwn.never rfl (pi_str (pe_slice sl_U (pv 1) (po_some pe_int) (po_some (pe_op op_sub (pe_callB call_lenU (by rfl) T.n_len (by decide +kernel) (pa_cons (pv 1) pa_nil)) pe_int)))) (pg_name (i := 4) sc_law_made.nd rfl (Or.inl rfl)) (pss_one (ps_if (pt_val (pv 3)) (pss_cons (ps_expr (pe_bm PySem.F.plainAttrs_list PySem.F.slot_list_append PySem.F.type_list_append mt_append (pv 2) (pa_cons (pe_dget2 (Nat.lt_of_le_of_lt (Nat.add_le_add_left (by decide : 1 ≤ 65) _) hr.units65) (pe_disp (pps_cons pe_str pe_str pps_nil) (by rfl) (by rfl) (fun z => by cases z) (by decide)) (pv 4) (pv 4) ⟨rfl, rfl, rfl, rfl⟩) pa_nil)))
        (pss_one (ps_set (i := 3) sc_law_made.nd rfl (Or.inl rfl) pe_bl))) (pss_one (ps_if (pt_cmpR (op_eqU hr.units) (pv 4) pe_str (nomark _)) (pss_one (ps_set (i := 3) sc_law_made.nd rfl (Or.inl rfl) pe_bl)) (pss_one (ps_expr (pe_bm PySem.F.plainAttrs_list PySem.F.slot_list_append PySem.F.type_list_append mt_append (pv 2) (pa_cons (pv 4) pa_nil)))))))))
        (pss_one (ps_ret (pe_tup (pa_cons pe_str (pa_cons (pe_join pe_str (pv 2)) pa_nil)))))))))), ?_⟩
    have zl : hd.length ≤ sizeLine := by rw [sizeLine_eq]; omega
    rcases hm with g | ⟨g, h1, h2⟩ | ⟨rfl, h1⟩
    · have em : madeR w hd = (rsS w, .str hd) := by unfold madeR; rw [if_pos g]
      rw [em] at q
      rcases g with rfl | rfl
      · walk_at "rd"
        refine r_small nsz fun p hp => ?_
        exact q _ _ (Same.new (Same.refl _) hp) ⟨p, rfl, upd_same⟩
      · walk_at "rd"
        refine r_small nsz fun p hp => ?_
        exact q _ _ (Same.new (Same.refl _) hp) ⟨p, rfl, upd_same⟩
    · have em : madeR w hd = (tagD, .int (nv hd)) := by unfold madeR; rw [if_neg (by omega), if_pos g]
      rw [em] at q
      rcases g with rfl | rfl
      · walk_at "rd"
        refine ⟨hd, _, rfl, h1, h2, ?_⟩
        walk_at "rd"
        refine r_small nsz fun p hp => ?_
        exact q _ _ (Same.new (Same.refl _) hp) ⟨p, rfl, upd_same⟩
      · walk_at "rd"
        refine ⟨hd, _, rfl, h1, h2, ?_⟩
        walk_at "rd"
        refine r_small nsz fun p hp => ?_
        exact q _ _ (Same.new (Same.refl _) hp) ⟨p, rfl, upd_same⟩
    · have em : madeR 3 hd = (tagT, .str ⟨(mach (seg (cs hd) 1 (hd.length - 1))).2.toArray⟩) := by unfold madeR; rw [if_neg (by decide), if_neg (by decide)]
      rw [em] at q
      walk_at "rd"
      refine r_small nsz fun S hS => ?_
      obtain ⟨H1, eH1, x1, g1⟩ := new1 hS (.lst [])
      rw [← eH1]
      walk_at "rd"
      refine r_lenS zl ?_
      walk_at "rd"
      refine r_slS zl ?_
      have ec : cutS hd (some (1 : Int)) (some (((hd.length : Nat) : Int) - 1)) = cut hd 1 (hd.length - 1) := by
        unfold cut
        rw [show (((hd.length : Nat) : Int) - 1) = ((hd.length - 1 : Nat) : Int) by omega]
        rfl
      rw [ec]
      have el : cs (cut hd 1 (hd.length - 1)) = seg (cs hd) 1 (hd.length - 1) := cut_seg hd 1 (hd.length - 1)
      have elen : (cut hd 1 (hd.length - 1)).length ≤ 6000 := by rw [cut_len' (by omega)]; omega
      walk_at "rd"
      refine l_S (fun i σ H' => ∃ y4, σ = [some (.str (rsS 3)), some (.str hd), some (.ref S), some (.bl (mach ((cs (cut hd 1 (hd.length - 1))).take i)).1), y4] ∧ Ex H H' ∧ H' S = some (sgL (mach ((cs (cut hd 1 (hd.length - 1))).take i)).2) ∧ (mach ((cs (cut hd 1 (hd.length - 1))).take i)).2.length ≤ i)
        ⟨_, by rw [List.take_zero]; rfl, x1, by rw [List.take_zero]; exact g1, by rw [List.take_zero]; exact Nat.le_refl _⟩ (fun i c σ H' hc hP => ?_) (fun σ H' hP => ?_)
      · obtain ⟨y4, rfl, e, gS, sl⟩ := hP
        have il : i < (cut hd 1 (hd.length - 1)).length := by rw [← cs_len]; exact (List.getElem?_eq_some_iff.mp hc).1
        have ms : mach ((cs (cut hd 1 (hd.length - 1))).take (i + 1)) = mst (mach ((cs (cut hd 1 (hd.length - 1))).take i)) c := by
          rw [List.take_add_one, hc]
          exact mach_snoc _ _
        obtain ⟨st, hst⟩ : ∃ st, st = mach ((cs (cut hd 1 (hd.length - 1))).take i) := ⟨_, rfl⟩
        rw [← hst] at ms gS sl
        rw [ms, ← hst]
        obtain ⟨b, o⟩ := st
        have sm : ((o.map fun c => (⟨#[c]⟩ : Str)).map V.str).length < sizeLine := by
          rw [List.length_map, List.length_map]
          exact Nat.lt_of_le_of_lt (show o.length ≤ 6000 by dsimp only at sl; omega) (by decide)
        cases b with
        | true =>
          rw [show mst (true, o) c = (false, o ++ [if c = 110 then 10 else c]) from rfl]
          walk_at "rd"
          refine r_tyL (sqL gS) ?_
          walk_at "rd"
          refine fun dp hdp => ?_
          have nd : S ≠ dp := fun z => by rw [← z, gS] at hdp; cases hdp
          refine ⟨upd_same, [(.inr (Str.ofString "n"), .str (Str.ofString "\n"))], rfl, by decide, ?_⟩
          refine ⟨dp, rfl, .inl ⟨_, .inl upd_same⟩, ?_⟩
          walk_at "rd"
          refine ⟨_, DGet.k (k := .inr ⟨#[c]⟩) upd_same, ?_⟩
          rw [get_n]
          walk_at "rd"
          have gS2 : upd (upd H' dp (.dK [])) dp (.dK (mergeK [] [((.inr (Str.ofString "n") : Key), V.str (Str.ofString "\n"))])) S = some (sgL o) := by
            rw [upd_ne nd, upd_ne nd]
            exact gS
          refine r_app gS2 sm ?_
          walk_at "rd"
          refine ⟨_, rfl, Same.mut (Same.mut (Same.mut e (e.free hdp)) (e.free hdp)) hS, ?_, by dsimp only at sl ⊢; rw [List.length_append, List.length_singleton]; omega⟩
          rw [upd_same]
          unfold sgL
          rw [List.map_append, List.map_append]
          rfl
        | false =>
          walk_at "rd"
          refine r_ite (fun h => ?_) (fun h => ?_)
          · have h : c = 92 := by
              have g := V.str.inj h
              rw [backS, tlS] at g
              exact g
            rw [show mst (false, o) c = (true, o) by unfold mst; rw [if_neg (show ¬ (false = true) by decide), if_pos h]]
            walk_at "rd"
            exact ⟨_, rfl, e, gS, by dsimp only at sl ⊢; omega⟩
          · have h : ¬ c = 92 := fun g => h (by rw [backS, g])
            rw [show mst (false, o) c = (false, o ++ [c]) by unfold mst; rw [if_neg (show ¬ (false = true) by decide), if_neg h]]
            walk_at "rd"
            refine r_tyL (sqL gS) ?_
            walk_at "rd"
            refine r_app gS sm ?_
            walk_at "rd"
            refine ⟨_, rfl, Same.mut e hS, ?_, by dsimp only at sl ⊢; rw [List.length_append, List.length_singleton]; omega⟩
            rw [upd_same]
            unfold sgL
            rw [List.map_append, List.map_append]
            rfl
      · obtain ⟨y4, rfl, e, gS, sl⟩ := hP
        rw [List.take_of_length_le (by rw [cs_len]; exact Nat.le_refl _), el] at gS
        walk_at "rd"
        refine ⟨⟨_, rfl⟩, ?_⟩
        walk_at "rd"
        refine ⟨"", S, _, rfl, rfl, .inl (sqL gS), ?_, ?_⟩
        · rw [sum_signs]
          rw [List.take_of_length_le (by rw [cs_len]; exact Nat.le_refl _), el] at sl
          show (mach (seg (cs hd) 1 (hd.length - 1))).2.length + _ * 0 ≤ _
          omega
        walk_at "rd"
        refine r_small nsz fun p hp => ?_
        exact q _ _ (e.trans (Same.new (Same.refl _) hp)) ⟨p, rfl, by
          rw [upd_same, show (Txt.join "" ((mach (seg (cs hd) 1 (hd.length - 1))).2.map fun c => (⟨#[c]⟩ : Str))) = ⟨(mach (seg (cs hd) 1 (hd.length - 1))).2.toArray⟩ from cs_ext (join_signs _)]
          rfl⟩
end
end K18

namespace K18
open PySem PySem.Spec PyProof.Rows L2 Dk Q18
/-- one step of a reading -/
local macro_rules | `(tactic| walk_at "rd1") => `(tactic| first
  | ((with_reducible refine r_var (v := ?rv) ?rh ?_); (case rh => rfl))
  | with_reducible refine r_c ?_
  | with_reducible refine r_seq ?_
  | with_reducible refine r_asg ?_
  | with_reducible refine r_par ?_
  | with_reducible refine r_gname ?_
  | with_reducible refine r_op ?_
  | with_reducible refine r_forLo ?_
  | with_reducible refine r_forTo ?_
  | with_reducible refine r_forSo ?_
  | with_reducible refine r_forRo ?_
  | with_reducible refine r_forRvo ?_
  | with_reducible refine r_forZo ?_
  | with_reducible refine r_revS ?_
  | with_reducible refine r_lcRo ?_
  | with_reducible refine r_lcLo ?_
  | with_reducible refine r_yes ?_
  | with_reducible refine r_callK0 ?_
  | with_reducible refine r_break ?_
  | with_reducible refine r_continue ?_
  | with_reducible refine r_forR2o ?_
  | with_reducible refine r_forEo ?_
  | with_reducible refine r_forESo ?_
  | with_reducible refine r_xfo ?_
  | with_reducible refine r_noP ?_
  | with_reducible refine r_part ?_
  | with_reducible refine r_pI ?_
  | with_reducible refine r_gcons ?_
  | with_reducible refine r_gnil ?_
  | with_reducible refine r_mkO ?_
  | with_reducible refine r_un ?_
  | with_reducible refine r_addI ?_
  | with_reducible refine r_I0 ?_
  | with_reducible refine r_U ?_
  | with_reducible refine r_cons ?_
  | with_reducible refine r_nil ?_
  | with_reducible refine r_CB ?_
  | with_reducible refine r_call ?_
  | with_reducible refine r_callS ?_
  | with_reducible refine r_int ?_
  | with_reducible refine r_max ?_
  | with_reducible refine r_min ?_
  | with_reducible refine r_test ?_
  | with_reducible refine r_B ?_
  | with_reducible refine r_blv ?_
  | with_reducible refine r_and ?_
  | with_reducible refine r_or ?_
  | with_reducible refine r_not ?_
  | with_reducible refine r_andV ?_
  | with_reducible refine r_orV ?_
  | with_reducible refine r_notV ?_
  | with_reducible refine r_ifE ?_
  | with_reducible refine r_ifS ?_
  | with_reducible refine r_ret ?_
  | with_reducible refine r_retN ?_
  | with_reducible refine r_drop ?_
  | with_reducible refine r_next ?_
  | with_reducible refine r_sl ?_
  | with_reducible refine r_gsub ?_
  | with_reducible refine r_bm ?_
  | with_reducible refine r_bm0 ?_
  | with_reducible refine r_tup ?_
  | with_reducible refine r_lst ?_
  | with_reducible refine r_isN ?_
  | with_reducible refine r_notN ?_
  | with_reducible refine r_chain ?_
  | with_reducible refine r_callK ?_
  | with_reducible refine r_isB ?_
  | with_reducible refine r_lcEio ?_
  | with_reducible refine r_forEi ?_
  | with_reducible refine r_lcTo ?_
  | with_reducible refine r_lcSo ?_
  | with_reducible refine r_m1 ?_
  | with_reducible refine r_dget ?_
  | with_reducible refine r_din ?_
  | with_reducible refine r_dnotin ?_
  | with_reducible refine r_starC ?_
  | with_reducible refine r_callKS ?_
  | with_reducible refine r_itt ?_
  | with_reducible refine r_iff ?_
  | with_reducible refine r_ittN ?_
  | with_reducible refine r_iffN ?_
  | ((with_reducible refine r_ittD ?rh ?_); (case rh => rfl))
  | ((with_reducible refine r_iffD ?rh ?_); (case rh => rfl))
  | ((with_reducible refine r_modP ?rh ?_); (case rh => decide))
  | ((with_reducible refine r_eq ?rh ?_); (case rh => rfl))
  | ((with_reducible refine r_eqP ?rh ?_); (case rh => rfl))
  | ((with_reducible refine r_ne ?rh ?_); (case rh => rfl)))
local macro_rules | `(tactic| walk_at "rd") => `(tactic| repeat walk_at "rd1")
local macro_rules | `(tactic| walk_at "isi") => `(tactic| first | refine r_isi (b := true) (by assumption) (by decide +kernel) ?_ | refine r_isi (b := false) (by assumption) (by decide +kernel) ?_)
local macro_rules | `(tactic| walk_at "rs1") => `(tactic| first
  | with_reducible refine r_seq ?_
  | with_reducible refine r_asg ?_
  | with_reducible refine r_gname ?_
  | with_reducible refine r_ret ?_)
local macro_rules | `(tactic| walk_at "rs") => `(tactic| repeat walk_at "rs1")

/-- a word and its end, or none and the bad place -/
def T1 (H : Hp) (x : V) : Res → Prop
  | .bad p => ∃ a, x = .ref a ∧ H a = some (.tup [.non, .int (p : Nat)])
  | .ok t v e => ∃ a u, x = .ref a ∧ H a = some (.tup [u, .int (e : Nat)]) ∧ W2 H u (t, v)
def spOne : Sp := fun vs H Q _ => ∃ (z : Str) (k : Nat), vs = [.str z, .int (k : Nat)] ∧ k ≤ z.length ∧ z.length ≤ 6000 ∧ ∀ x H', Ex H H' → T1 H' x (wordR z k) → Q x H'
def spWordsL : Sp := fun vs H Q _ => ∃ z : Str, vs = [.str z] ∧ z.length ≤ 6000 ∧ (∀ l, Line z (.words l) → ∀ p L xs H', Ex H H' → H' p = some (.tup [.str "words", .ref L]) → H' L = some (.lst xs) → P2 (W2 H') xs l → Q (.ref p) H') ∧
  (∀ k, Line z (.bad k) → ∀ p H', Ex H H' → H' p = some (.tup [.str "bad", .int (k : Nat)]) → Q (.ref p) H')
theorem rs_ne {w b : Nat} (hw : w ≤ 8) (hb : b ≤ 8) (n : w ≠ b) : ¬ V.str (rsS w) = V.str (rsS b) := fun e => n (rs_inj hw hb (V.str.inj e))
section
variable {P : Program} {w : World} {K : PySem.W.Frag} {mg : Str → Option Value} {base : Heap}
theorem ok_law_one (T : Txt K mg) : FnOk P w K mg base CX0 3 T.a_law_one T.d_law_one ["_law_line", "_law_at"] spOne := by
  refine T.F_law_one.ok sc_law_one (fun vs H Q E h => ?_) (fun cdv A outer s H vs Q E hr h => ?_)
  · obtain ⟨z, k, rfl, _⟩ := h
    rfl
  · obtain ⟨z, k, rfl, hk, hz, q⟩ := h
    refine ⟨_, (pss_cons (ps_if (pt_cmpR (op_eqU hr.units) (pv 1) (pe_callB call_lenU (by rfl) T.n_len (by decide +kernel) (pa_cons (pv 0) pa_nil)) (nomark _)) (pss_one (ps_ret (pe_tup (pa_cons pe_non (pa_cons (pv 1) pa_nil))))) pss_nil)
        (pss_cons (ps_set (i := 2) sc_law_one.nd rfl (Or.inl rfl) (pe_call (ok_law_begun T) hr (by rfl) T.g_law_begun T.F_law_begun.kp T.b_law_begun .nil pass0 (pa_cons (pe_ix ix_seq (pv 0) (pv 1) (fun _ _ => rfl)) pa_nil)))
        (pss_cons (ps_if (pt_cmpR (op_eqU hr.units) (pv 2) pe_str (nomark _)) (pss_one (ps_ret (pe_tup (pa_cons pe_non (pa_cons (pv 1) pa_nil))))) pss_nil)
        (pss_cons (ps_set (i := 3) sc_law_one.nd rfl (Or.inl rfl) (pe_ix ix_seq (pv 0) (pv 1) (fun _ _ => rfl)))
        (pss_cons (ps_for PassesOwn.never rfl (pi_range2 (by rfl) T.n_range (pa_cons (pe_op op_addU (pv 1) pe_int) (pa_cons (pe_callB call_lenU (by rfl) T.n_len (by decide +kernel) (pa_cons (pv 0) pa_nil)) pa_nil))) (pg_name (i := 4) sc_law_one.nd rfl (Or.inl rfl)) (pss_cons (ps_set (i := 5) sc_law_one.nd rfl (Or.inl rfl) (pe_call (ok_law_on T) hr (by rfl) T.g_law_on T.F_law_on.kp T.b_law_on .nil pass0 (pa_cons (pv 2) (pa_cons (pv 3) (pa_cons (pe_ix ix_seq (pv 0) (pv 4) (fun _ _ => rfl)) pa_nil)))))
        (pss_cons (ps_if (pt_cmpR (op_eqU hr.units) (pv 5) pe_str (nomark _)) (pss_one (ps_ret (pe_tup (pa_cons pe_non (pa_cons (pv 4) pa_nil))))) pss_nil)
        (pss_cons (ps_if (pt_cmpR (op_eqU hr.units) (pv 5) pe_str (nomark _)) (pss_one (ps_ret (pe_tup (pa_cons (pe_call (ok_law_made T) (hr.mono (by decide)) (by rfl) T.g_law_made T.F_law_made.kp T.b_law_made .nil pass0 (pa_cons (pv 2) (pa_cons (pv 3) pa_nil))) (pa_cons (pv 4) pa_nil))))) pss_nil)
        (pss_cons (ps_set (i := 3) sc_law_one.nd rfl (Or.inl rfl) (pe_op op_addU (pv 3) (pe_ix ix_seq (pv 0) (pv 4) (fun _ _ => rfl))))
        (pss_cons (ps_if (pt_cmpR (op_eqU hr.units) (pv 5) pe_str (nomark _)) (pss_one (ps_ret (pe_tup (pa_cons (pe_call (ok_law_made T) (hr.mono (by decide)) (by rfl) T.g_law_made T.F_law_made.kp T.b_law_made .nil pass0 (pa_cons pe_str (pa_cons (pv 3) pa_nil))) (pa_cons (pe_op op_addU (pv 4) pe_int) pa_nil))))) pss_nil)
        (pss_one (ps_set (i := 2) sc_law_one.nd rfl (Or.inl rfl) (pv 5)))))))))
        (pss_cons (ps_if (PW.pt (pw_or (pt_cmpR (op_eqU hr.units) (pv 2) pe_str (nomark _)) (pw_or1 (pt_cmpR (op_eqU hr.units) (pv 2) pe_str (nomark _))))) (pss_one (ps_ret (pe_tup (pa_cons pe_non (pa_cons (pe_callB call_lenU (by rfl) T.n_len (by decide +kernel) (pa_cons (pv 0) pa_nil)) pa_nil))))) pss_nil)
        (pss_one (ps_ret (pe_tup (pa_cons (pe_call (ok_law_made T) (hr.mono (by decide)) (by rfl) T.g_law_made T.F_law_made.kp T.b_law_made .nil pass0 (pa_cons (pv 2) (pa_cons (pv 3) pa_nil))) (pa_cons (pe_callB call_lenU (by rfl) T.n_len (by decide +kernel) (pa_cons (pv 0) pa_nil)) pa_nil))))))))))), ?_⟩
    have zl : z.length ≤ sizeLine := by rw [sizeLine_eq]; omega
    have qB : ∀ p H1, Ex H H1 → wordR z k = .bad p → ∀ a, H1 a = none → Q (.ref a) (upd H1 a (.tup [.non, .int (p : Nat)])) := fun p H1 e1 h a ha => by
      have := q (.ref a) _ (e1.trans (Same.new (o := HO.tup [.non, .int (p : Nat)]) (Same.refl _) ha))
      rw [h] at this
      exact this ⟨a, rfl, upd_same⟩
    have qO : ∀ t v e u H1, Ex H H1 → wordR z k = .ok t v e → W2 H1 u (t, v) → ∀ a, H1 a = none → Q (.ref a) (upd H1 a (.tup [u, .int (e : Nat)])) := fun t v e u H1 e1 h hu a ha => by
      have := q (.ref a) _ (e1.trans (Same.new (o := HO.tup [u, .int (e : Nat)]) (Same.refl _) ha))
      rw [h] at this
      exact this ⟨a, u, rfl, upd_same, imm (Tk.new ha) hu⟩
    walk_at "rd"
    refine r_lenS zl ?_
    walk_at "rd"
    refine r_ite (fun h => ?_) (fun h => ?_)
    · have h := V.int.inj h
      walk_at "rd"
      refine r_small nsz fun a ha => ?_
      exact qB k H (Same.refl _) (by unfold wordR; rw [none_at (by omega)]) a ha
    have hkl : k < z.length := by
      have : ¬ k = z.length := fun e => h (by rw [e])
      omega
    obtain ⟨c0, hc0, hat⟩ := s_at hkl
    walk_at "rd"
    refine r_ixS zl hat ?_
    walk_at "rd"
    refine ⟨c0, rfl, ?_⟩
    walk_at "rd"
    have bl := bgn_le c0
    by_cases hb : bgn c0 = 6
    · rw [hb]
      walk_at "rd"
      refine r_small nsz fun a ha => ?_
      exact qB k H (Same.refl _) (begin_bad hc0 hb) a ha
    refine r_ite (fun g => absurd g (rs_ne (by omega) (b := 6) (by decide) hb)) (fun _ => ?_)
    walk_at "rd"
    refine r_ixS zl hat ?_
    walk_at "rd"
    refine r_lenS zl ?_
    walk_at "rd"
    have c1 : cut z k (k + 1) = ⟨#[c0]⟩ := cs_ext (by rw [cut_seg, seg_succ (Nat.le_refl k) hc0, seg_nil]; rfl)
    refine l_R2g (a := k + 1) (n := z.length - (k + 1)) (by omega) (by omega) (by omega) (fun i σ H' => ∃ (w : Nat) (y4 y5 : Option V), σ = [some (.str z), some (.int (k : Nat)), some (.str (rsS w)), some (.str (cut z k (k + 1 + i))), y4, y5] ∧ H' = H ∧ w ≤ 5 ∧ InvO z k w (k + 1 + i)) ⟨bgn c0, none, none, by rw [show k + 1 + 0 = k + 1 by omega, c1]; rfl, rfl, by omega, begin_inv hc0 hb⟩ (fun i σ H' hi hP => ?_) (fun σ H' hP => ?_)
    · obtain ⟨w, y4, y5, rfl, rfl, hw, inv⟩ := hP
      obtain ⟨c, hc, hat2⟩ := s_at (z := z) (d := k + 1 + i) (by omega)
      have st := inv_step inv hc
      have hl : (cut z k (k + 1 + i)).length = k + 1 + i - k := cut_len' (by omega)
      walk_at "rd"
      refine r_ixS zl hat2 ?_
      walk_at "rd"
      refine ⟨w, c, _, rfl, hw, by omega, ?_⟩
      rw [hl]
      walk_at "rd"
      rcases st with ⟨r6, hr6⟩ | ⟨r7, hr7, mk⟩ | ⟨r8, hr8, mk⟩ | ⟨r5, inv2⟩
      · rw [r6]
        walk_at "rd"
        refine r_small nsz fun a ha => ?_
        exact qB _ _ (Same.refl _) hr6 a ha
      · rw [r7]
        walk_at "rd"
        refine ⟨w, _, rfl, mk, hw, by omega, fun x H1 e1 hx => ?_⟩
        walk_at "rd"
        refine r_small nsz fun a ha => ?_
        exact qO _ _ _ x H1 e1 hr7 hx a ha
      · rw [r8]
        walk_at "rd"
        refine r_ixS zl hat2 ?_
        walk_at "rd"
        refine r_addS (by rw [hl, sizeLine_eq]; show _ + 1 ≤ _; omega) ?_
        rw [cut_snoc (by omega) hc]
        walk_at "rd"
        refine ⟨3, _, rfl, mk, by decide, by rw [cut_len' (by omega)]; omega, fun x H1 e1 hx => ?_⟩
        walk_at "rd"
        refine r_small nsz fun a ha => ?_
        exact qO _ _ _ x H1 e1 hr8 hx a ha
      · refine r_ite (fun g => absurd g (rs_ne (by omega) (b := 6) (by decide) (by omega))) (fun _ => ?_)
        walk_at "rd"
        refine r_ite (fun g => absurd g (rs_ne (by omega) (b := 7) (by decide) (by omega))) (fun _ => ?_)
        walk_at "rd"
        refine r_ixS zl hat2 ?_
        walk_at "rd"
        refine r_addS (by rw [hl, sizeLine_eq]; show _ + 1 ≤ _; omega) ?_
        rw [cut_snoc (by omega) hc]
        walk_at "rd"
        refine r_ite (fun g => absurd g (rs_ne (by omega) (b := 8) (by decide) (by omega))) (fun _ => ?_)
        walk_at "rd"
        exact ⟨_, _, _, rfl, rfl, r5, inv2⟩
    · obtain ⟨w, y4, y5, rfl, rfl, hw, inv⟩ := hP
      rw [show k + 1 + (z.length - (k + 1)) = z.length by omega] at inv ⊢
      walk_at "rd"
      rcases inv_end inv with ⟨g, hb⟩ | ⟨g3, g4, hok, mk⟩
      · have gg : wordR z k = .bad z.length := hb
        rcases g with rfl | rfl
        · walk_at "rd"
          refine r_lenS zl ?_
          walk_at "rd"
          refine r_small nsz fun a ha => ?_
          exact qB _ _ (Same.refl _) gg a ha
        · walk_at "rd"
          refine r_lenS zl ?_
          walk_at "rd"
          refine r_small nsz fun a ha => ?_
          exact qB _ _ (Same.refl _) gg a ha
      · refine r_ite (fun g => absurd g (rs_ne (by omega) (b := 3) (by decide) (by omega))) (fun _ => ?_)
        walk_at "rd"
        refine r_ite (fun g => absurd g (rs_ne (by omega) (b := 4) (by decide) (by omega))) (fun _ => ?_)
        walk_at "rd"
        refine ⟨w, _, rfl, mk, hw, by rw [cut_len' (by omega)]; omega, fun x H1 e1 hx => ?_⟩
        walk_at "rd"
        refine r_lenS zl ?_
        walk_at "rd"
        refine r_small nsz fun a ha => ?_
        exact qO _ _ _ x H1 e1 hok hx a ha
theorem ok_law_words (T : Txt K mg) : FnOk P w K mg base CX0 4 T.a_law_words T.d_law_words ["_law_line"] spWordsL := by
  refine T.F_law_words.ok sc_law_words (fun vs H Q E h => ?_) (fun cdv A outer s H vs Q E hr h => ?_)
  · obtain ⟨z, rfl, _⟩ := h
    rfl
  · obtain ⟨z, rfl, hz, q, qB⟩ := h
    refine ⟨_, (pss_cons (ps_set (i := 1) sc_law_words.nd rfl (Or.inl rfl) (pe_lst pa_nil))
        (pss_cons (ps_set (i := 2) sc_law_words.nd rfl (Or.inl rfl) pe_int)
        (pss_cons (ps_for PassesOwn.never rfl (pi_range1 (by rfl) T.n_range (pa_cons (pe_op op_addU (pe_callB call_lenU (by rfl) T.n_len (by decide +kernel) (pa_cons (pv 0) pa_nil)) pe_int) pa_nil)) (pg_name (i := 3) sc_law_words.nd rfl (Or.inl rfl)) (pss_cons (ps_if (pt_cmpR (op_eqU hr.units) (pv 0) pe_str (nomark _)) (pss_one (ps_ret (pe_tup (pa_cons pe_str (pa_cons (pe_lst pa_nil) pa_nil))))) pss_nil)
        (pss_cons (ps_set (i := 4) sc_law_words.nd rfl (Or.inl rfl) (pe_call (ok_law_one T) hr (by rfl) T.g_law_one T.F_law_one.kp T.b_law_one .nil pass0 (pa_cons (pv 0) (pa_cons (pv 2) pa_nil))))
        (pss_cons (ps_if (pt_cmpR op_isU (pe_ix ix_seq (pv 4) pe_int (fun _ _ => rfl)) pe_non (nomark _)) (pss_one (ps_ret (pe_tup (pa_cons pe_str (pa_cons (pe_ix ix_seq (pv 4) pe_int (fun _ _ => rfl)) pa_nil))))) pss_nil)
        (pss_cons (ps_expr (pe_bm PySem.F.plainAttrs_list PySem.F.slot_list_append PySem.F.type_list_append mt_append (pv 1) (pa_cons (pe_ix ix_seq (pv 4) pe_int (fun _ _ => rfl)) pa_nil)))
        (pss_cons (ps_if (pt_cmpR (op_eqU hr.units) (pe_ix ix_seq (pv 4) pe_int (fun _ _ => rfl)) (pe_callB call_lenU (by rfl) T.n_len (by decide +kernel) (pa_cons (pv 0) pa_nil)) (nomark _)) (pss_one (ps_ret (pe_tup (pa_cons pe_str (pa_cons (pv 1) pa_nil))))) pss_nil)
        (pss_cons (ps_if (pt_cmpR (op_neU hr.units) (pe_ix ix_seq (pv 0) (pe_ix ix_seq (pv 4) pe_int (fun _ _ => rfl)) (fun _ _ => rfl)) pe_str (nomark _)) (pss_one (ps_ret (pe_tup (pa_cons pe_str (pa_cons (pe_ix ix_seq (pv 4) pe_int (fun _ _ => rfl)) pa_nil))))) pss_nil)
        (pss_one (ps_set (i := 2) sc_law_words.nd rfl (Or.inl rfl) (pe_op op_addU (pe_ix ix_seq (pv 4) pe_int (fun _ _ => rfl)) pe_int))))))))))
        (pss_one (ps_ret (pe_tup (pa_cons pe_str (pa_cons (pe_un un_neg pe_int) pa_nil)))))))), ?_⟩
    have zl : z.length ≤ sizeLine := by rw [sizeLine_eq]; omega
    have e0 : (z = Str.ofString "") ↔ z.length = 0 := by
      constructor
      · intro h
        rw [h]
        decide +kernel
      · intro h
        refine cs_ext ?_
        have h0 : cs z = [] := List.length_eq_zero_iff.mp (by rw [cs_len]; exact h)
        rw [h0]
        decide +kernel
    walk_at "rd"
    refine r_small nsz fun L hL => ?_
    obtain ⟨H1, eH1, x1, g1⟩ := new1 hL (.lst [])
    rw [← eH1]
    walk_at "rd"
    refine r_lenS zl ?_
    walk_at "rd"
    refine l_R (by omega) (by omega) (fun i σ H' => ∃ (k : Nat) (acc : List Wd) (xs : List V) (y3 y4 : Option V), σ = [some (.str z), some (.ref L), some (.int (k : Nat)), y3, y4] ∧ Ex H H' ∧ H' L = some (.lst xs) ∧ P2 (W2 H') xs acc ∧ i ≤ k ∧ k ≤ z.length ∧ (0 < z.length → ∀ r, Reads z k acc r → Line z r) ∧ xs.length ≤ k)
      ⟨0, [], [], none, none, rfl, x1, g1, .nil, Nat.le_refl _, Nat.zero_le _, fun h r hr => .inr ⟨h, hr⟩, Nat.le_refl _⟩ (fun i σ H' hi hP => ?_) (fun σ H' hP => ?_)
    · obtain ⟨k, acc, xs, y3, y4, rfl, e, gL, gp, ik, hk, hrd, xl⟩ := hP
      walk_at "rd"
      refine r_ite (fun h => ?_) (fun h => ?_)
      · have h := e0.mp (V.str.inj h)
        walk_at "rd"
        refine r_small nsz fun L2 hL2 => ?_
        obtain ⟨H2, eH2, x2, g2⟩ := new1 hL2 (.lst [])
        rw [← eH2]
        walk_at "rd"
        refine r_small nsz fun p hp => ?_
        have x3 := Same.new (o := HO.tup [.str "words", .ref L2]) (Same.refl H2) hp
        exact q [] (.inl ⟨h, rfl⟩) p L2 [] _ (e.trans (x2.trans x3)) upd_same (x3 _ _ g2) .nil
      have h0 : 0 < z.length := Nat.pos_of_ne_zero fun e => h (by rw [e0.mpr e])
      have hrd := hrd h0
      walk_at "rd"
      refine ⟨z, k, rfl, hk, hz, fun x H2 e2 hx => ?_⟩
      walk_at "rd"
      have gp := p2_imm (Tk.ex e2) gp
      have gL := e2 _ _ gL
      cases hw : wordR z k with
      | bad p =>
        rw [hw] at hx
        obtain ⟨a, rfl, ga⟩ := hx
        refine r_ixT (sqT ga) (atI_nat (j := 0) rfl) ?_
        walk_at "rd"
        refine r_ixT (sqT ga) (atI_nat (j := 1) rfl) ?_
        walk_at "rd"
        refine r_small nsz fun b hb => ?_
        exact qB p (hrd _ (.bad hw)) b _ (e.trans (e2.trans (Same.new (Same.refl _) hb))) upd_same
      | ok t v en =>
        rw [hw] at hx
        obtain ⟨a, u, rfl, ga, qu, eu, gu⟩ := hx
        subst eu
        have we := word_end hw
        refine r_ixT (sqT ga) (atI_nat (j := 0) rfl) ?_
        walk_at "rd"
        refine r_tyL (sqL gL) ?_
        walk_at "rd"
        refine r_ixT (sqT ga) (atI_nat (j := 0) rfl) ?_
        walk_at "rd"
        refine r_app gL (by rw [sizeLine_eq]; omega) ?_
        obtain ⟨H3, eH3⟩ : ∃ H3, H3 = upd H2 L (.lst (xs ++ [.ref qu])) := ⟨_, rfl⟩
        rw [← eH3]
        have tk : Tk H2 H3 := by rw [eH3]; exact Tk.put gL
        have gL3 : H3 L = some (.lst (xs ++ [.ref qu])) := by rw [eH3, upd_same]
        have ga3 := tk _ _ ga
        have gp3 : P2 (W2 H3) (xs ++ [.ref qu]) (acc ++ [(t, v)]) := (p2_imm tk gp).snoc ⟨qu, rfl, tk _ _ gu⟩
        have e3 : Ex H H3 := by rw [eH3]; exact Same.mut (e.trans e2) hL
        walk_at "rd"
        refine r_ixT (sqT ga3) (atI_nat (j := 1) rfl) ?_
        walk_at "rd"
        refine r_lenS zl ?_
        walk_at "rd"
        refine r_ite (fun h1 => ?_) (fun h1 => ?_)
        · have h1 : en = z.length := by have := V.int.inj h1; omega
          walk_at "rd"
          refine r_small nsz fun p hp => ?_
          have x4 := Same.new (o := HO.tup [.str "words", .ref L]) (Same.refl H3) hp
          exact q (acc ++ [(t, v)]) (hrd _ (.last (by rw [hw, h1]))) p L _ _ (e3.trans x4) upd_same (x4 _ _ gL3) (p2_imm (Tk.ex x4) gp3)
        · have h1 : en < z.length := by
            have : ¬ en = z.length := fun g => h1 (by rw [g])
            omega
          obtain ⟨c, hc, hat⟩ := s_at h1
          walk_at "rd"
          refine r_ixT (sqT ga3) (atI_nat (j := 1) rfl) ?_
          walk_at "rd"
          refine r_ixS zl hat ?_
          walk_at "rd"
          refine r_iteN (fun h2 => ?_) (fun h2 => ?_)
          · have h2 : c ≠ 32 := fun g => h2 (by rw [blankS, g])
            walk_at "rd"
            refine r_ixT (sqT ga3) (atI_nat (j := 1) rfl) ?_
            walk_at "rd"
            refine r_small nsz fun b hb => ?_
            exact qB en (hrd _ (.off hw hc h2)) b _ (e3.trans (Same.new (Same.refl _) hb)) upd_same
          · have h2 : c = 32 := by
              have g := V.str.inj h2
              rw [blankS, tlS] at g
              exact g
            rw [h2] at hc
            walk_at "rd"
            refine r_ixT (sqT ga3) (atI_nat (j := 1) rfl) ?_
            walk_at "rd"
            exact ⟨en + 1, acc ++ [(t, v)], _, _, _, rfl, e3, gL3, gp3, by omega, by omega, fun _ r hr => hrd r (.more hw hc hr), by rw [List.length_append, List.length_singleton]; omega⟩
    · obtain ⟨k, acc, xs, y3, y4, rfl, e, gL, gp, ik, hk, hrd, xl⟩ := hP
      omega
end
end K18

/-! quoted texts, without code -/
namespace Q18
open PySem PySem.Spec PyProof.Rows L2 Dk
theorem flat_free {f : Nat → List Nat} {c : Nat} (hf : ∀ d, d ≠ c → f d = [d]) : ∀ {p : List Nat}, c ∉ p → p.flatMap f = p
  | [], _ => rfl
  | a :: p, h => by
    rw [List.flatMap_cons, hf a (fun e => h (by rw [e]; exact List.mem_cons_self ..)), flat_free hf (fun m => h (List.mem_cons_of_mem _ m))]
    rfl
theorem flat_join {f : Nat → List Nat} {c : Nat} {s : List Nat} (hf : ∀ d, d ≠ c → f d = [d]) (hc : f c = s) : ∀ {parts : List Str}, (∀ p ∈ parts, c ∉ cs p) → (cs (Str.join ⟨#[c]⟩ parts)).flatMap f = cs (Str.join ⟨s.toArray⟩ parts)
  | [], _ => rfl
  | [p], h => by
    show (cs p).flatMap f = cs p
    exact flat_free hf (h p (List.mem_cons_self ..))
  | p :: p2 :: r, h => by
    have ih := flat_join hf hc (parts := p2 :: r) (fun q hq => h q (List.mem_cons_of_mem _ hq))
    show (cs (p ++ ⟨#[c]⟩ ++ Str.join ⟨#[c]⟩ (p2 :: r))).flatMap f = cs (p ++ ⟨s.toArray⟩ ++ Str.join ⟨s.toArray⟩ (p2 :: r))
    rw [cs_app, cs_app, cs_app, cs_app, List.flatMap_append, List.flatMap_append, ih, flat_free hf (h p (List.mem_cons_self ..))]
    congr 2
    show f c ++ [] = s
    rw [List.append_nil, hc]
theorem rep_flat (x w : Str) (c : Nat) : cs (Txt.replace x ⟨#[c]⟩ w) = (cs x).flatMap fun d => if d = c then cs w else [d] := by
  have h := flat_join (f := fun d => if d = c then cs w else [d]) (c := c) (s := cs w) (fun d hd => if_neg hd) (if_pos rfl) (parts := Txt.split x ⟨#[c]⟩) (fun p hp => PySem.StrLaws.split_free x c p hp)
  rw [PySem.StrLaws.join_split] at h
  rw [h, PySem.StrLaws.replace_one]
/-- a sign as it stands within quotes -/
def qs (d : Nat) : List Nat := if d = 92 then [92, 92] else if d = 34 then [92, 34] else if d = 10 then [92, 110] else [d]
def escQ (z : Str) : Str := Txt.replace (Txt.replace (Txt.replace z ⟨#[92]⟩ ⟨#[92, 92]⟩) ⟨#[34]⟩ ⟨#[92, 34]⟩) ⟨#[10]⟩ ⟨#[92, 110]⟩
theorem flat_two {f g : Nat → List Nat} (l : List Nat) : (l.flatMap f).flatMap g = l.flatMap fun d => (f d).flatMap g := List.flatMap_assoc
theorem esc_cs (z : Str) : cs (escQ z) = (cs z).flatMap qs := by
  unfold escQ
  rw [rep_flat, rep_flat, rep_flat, flat_two, flat_two]
  congr 1
  funext d
  unfold qs
  by_cases h1 : d = 92
  · subst h1
    rfl
  · by_cases h2 : d = 34
    · subst h2
      rfl
    · by_cases h3 : d = 10
      · subst h3
        rfl
      · simp [h1, h2, h3]
theorem flat_le {f : Nat → List Nat} {n : Nat} (h : ∀ d, (f d).length ≤ n) : ∀ l : List Nat, (l.flatMap f).length ≤ l.length * n
  | [] => Nat.zero_le _
  | a :: l => by
    rw [List.flatMap_cons, List.length_append, List.length_cons]
    have := flat_le h l
    have := h a
    rw [Nat.add_mul]
    omega
theorem rep_le {x w : Str} {c : Nat} (h : w.length = 2) : (Txt.replace x ⟨#[c]⟩ w).length ≤ x.length * 2 := by
  rw [← cs_len, ← cs_len x, rep_flat]
  refine flat_le (fun d => ?_) _
  split
  · rw [cs_len]; omega
  · show 1 ≤ 2; decide
theorem esc_le (z : Str) : (escQ z).length ≤ z.length * 2 := by
  rw [← cs_len, ← cs_len z, esc_cs]
  refine flat_le (fun d => ?_) _
  unfold qs
  split
  · exact Nat.le_refl _
  · split
    · exact Nat.le_refl _
    · split
      · exact Nat.le_refl _
      · show 1 ≤ 2; decide
/-- what is quoted is read back -/
theorem scan_esc (r : List Nat) : ∀ (t : List Nat) (p : Nat), scanT (t.flatMap qs ++ 34 :: r) p = .ok t (p + (t.flatMap qs).length + 1)
  | [], p => by
    show scanT (34 :: r) p = _
    rw [scan_q]
    rfl
  | c :: t, p => by
    rw [List.flatMap_cons, List.append_assoc]
    have two : ∀ a : Nat, (scanT (t.flatMap qs ++ 34 :: r) (p + 2)).cons a = .ok (a :: t) (p + ([92, a] ++ t.flatMap qs).length + 1) := fun a => by
      rw [scan_esc r t (p + 2)]
      show TRes.ok _ _ = TRes.ok _ _
      congr 1
      simp
      omega
    by_cases h1 : c = 92
    · subst h1
      show scanT (92 :: 92 :: (t.flatMap qs ++ 34 :: r)) p = .ok (92 :: t) (p + ([92, 92] ++ t.flatMap qs).length + 1)
      rw [scan_bs (.inl rfl), two]
    · by_cases h2 : c = 34
      · subst h2
        show scanT (92 :: 34 :: (t.flatMap qs ++ 34 :: r)) p = .ok (34 :: t) (p + ([92, 34] ++ t.flatMap qs).length + 1)
        rw [scan_bs (.inr rfl), two]
      · by_cases h3 : c = 10
        · subst h3
          show scanT (92 :: 110 :: (t.flatMap qs ++ 34 :: r)) p = .ok (10 :: t) (p + ([92, 110] ++ t.flatMap qs).length + 1)
          rw [scan_bn, two]
          rfl
        · have e : qs c = [c] := by unfold qs; rw [if_neg h1, if_neg h2, if_neg h3]
          rw [e]
          show scanT (c :: (t.flatMap qs ++ 34 :: r)) p = .ok (c :: t) (p + (c :: t.flatMap qs).length + 1)
          rw [scan_c h2 h3 h1, scan_esc r t (p + 1)]
          show TRes.ok _ _ = TRes.ok _ _
          congr 1
          simp
          omega
def quoteQ (z : Str) : Str := ⟨#[34]⟩ ++ escQ z ++ ⟨#[34]⟩
theorem quote_len (z : Str) : (quoteQ z).length = (escQ z).length + 2 := by
  unfold quoteQ
  rw [app_len, app_len]
  show 1 + _ + 1 = _
  omega
/-- a quoted text within a line -/
theorem text_quoted (a t b : Str) : textR (a ++ quoteQ t ++ b) a.length = .ok tagT (.str t) (a.length + (quoteQ t).length) := by
  have hcs : cs (a ++ quoteQ t ++ b) = cs a ++ (34 :: ((cs t).flatMap qs ++ 34 :: cs b)) := by
    unfold quoteQ
    rw [cs_app, cs_app, cs_app, cs_app, esc_cs]
    show _ ++ ([34] ++ _ ++ [34]) ++ _ = _
    simp
  have h0 : (cs (a ++ quoteQ t ++ b))[a.length]? = some 34 := by
    rw [hcs, ← cs_len, List.getElem?_append_right (Nat.le_refl _), Nat.sub_self]
    rfl
  unfold textR
  rw [h0]
  dsimp only
  rw [if_pos rfl, hcs, ← cs_len a, ← List.drop_drop, List.drop_left, List.drop_succ_cons, List.drop_zero, scan_esc]
  show Res.ok tagT (.str ⟨(cs t).toArray⟩) _ = _
  have e1 : (⟨(cs t).toArray⟩ : Str) = t := cs_ext rfl
  rw [e1, quote_len, ← cs_len (escQ t), esc_cs]
  congr 1
  omega
/-- a text or a number -/
def Sc (v : V) : Prop := (∃ z, v = .str z) ∨ ∃ i, v = .int i
theorem name_sc {z : Str} {k : Nat} {t : Str} {v : V} {e : Nat} (h : nameR z k = .ok t v e) : Sc v := by
  unfold nameR at h
  split at h
  · cases h
  · split at h
    · split at h
      · cases h
      · cases h; exact .inl ⟨_, rfl⟩
    · cases h
theorem num_sc {z : Str} {k : Nat} {t : Str} {v : V} {e : Nat} (h : numR z k = .ok t v e) : Sc v := by
  unfold numR at h
  split at h
  · cases h
  · split at h
    · cases h; exact .inr ⟨_, rfl⟩
    · cases h
theorem text_sc {z : Str} {k : Nat} {t : Str} {v : V} {e : Nat} (h : textR z k = .ok t v e) : Sc v := by
  unfold textR at h
  split at h
  · cases h
  · split at h
    · rename_i c _ _
      cases ks : scanT ((cs z).drop (k + 1)) (k + 1) with
      | bad p => rw [ks] at h; cases h
      | ok t' e' => rw [ks] at h; cases h; exact .inl ⟨_, rfl⟩
    · cases h
theorem word_sc {z : Str} {k : Nat} {t : Str} {v : V} {e : Nat} (h : wordR z k = .ok t v e) : Sc v := by
  cases hc : (cs z)[k]? with
  | none => unfold wordR at h; rw [hc] at h; cases h
  | some c =>
    rw [word_bgn hc] at h
    split at h
    · cases h
    split at h
    · exact name_sc h
    split at h
    · exact num_sc h
    split at h
    · exact text_sc h
    · cases h; exact .inl ⟨_, rfl⟩
theorem reads_sc {z : Str} {k : Nat} {acc : List Wd} {r : LRes} (h : Reads z k acc r) : (∀ x ∈ acc, Sc x.2) → ∀ l, r = .words l → ∀ x ∈ l, Sc x.2 := by
  induction h with
  | bad h => intro _ l e; cases e
  | @last k t v acc h =>
    intro ha l e x hx
    cases e
    rcases List.mem_append.mp hx with g | g
    · exact ha x g
    · rw [List.mem_singleton.mp g]; exact word_sc h
  | off h _ _ => intro _ l e; cases e
  | @more k t v e acc r h _ _ ih =>
    intro ha l e x hx
    refine ih (fun x hx => ?_) l e x hx
    rcases List.mem_append.mp hx with g | g
    · exact ha x g
    · rw [List.mem_singleton.mp g]; exact word_sc h
theorem line_sc {z : Str} {l : List Wd} (h : Line z (.words l)) : ∀ x ∈ l, Sc x.2 := by
  rcases h with ⟨_, e⟩ | ⟨_, h⟩
  · cases e
    exact fun _ h => nomatch h
  · exact reads_sc h (fun _ h => nomatch h) l rfl
/-- the kind that a place shows -/
def kdS (c : Nat) : Nat := if bgn c = 1 then 2 else bgn c
def fR (n : Nat) : Str → Nat → Res := if n = 0 then nameR else if n = 2 then numR else textR
theorem f_none {z : Str} {k n : Nat} (h : (cs z)[k]? = none) : fR n z k = .bad k := by
  unfold fR
  split
  · unfold nameR; rw [h]
  · split
    · unfold numR; rw [h]
    · unfold textR; rw [h]
theorem f_off {z : Str} {k n c : Nat} (h : (cs z)[k]? = some c) (hn : n = 0 ∨ n = 2 ∨ n = 3) (hk : kdS c ≠ n) : fR n z k = .bad k := by
  unfold kdS bgn at hk
  rcases hn with rfl | rfl | rfl
  · show nameR z k = _
    unfold nameR
    rw [h]
    dsimp only
    rw [if_neg]
    intro g
    refine hk ?_
    have nb : ¬ (c = 32 ∨ c = 10) := by
      unfold smc at g
      rw [Bool.and_eq_true, decide_eq_true_iff, decide_eq_true_iff] at g
      omega
    rw [if_neg nb, if_pos g]
    rfl
  · show numR z k = _
    unfold numR
    rw [h]
    dsimp only
    rw [if_neg]
    intro g
    refine hk ?_
    have g' := g
    unfold dgc at g'
    rw [Bool.and_eq_true, decide_eq_true_iff, decide_eq_true_iff] at g'
    have nb : ¬ (c = 32 ∨ c = 10) := by omega
    have ns : ¬ smc c = true := by
      unfold smc
      rw [Bool.and_eq_true, decide_eq_true_iff, decide_eq_true_iff]
      omega
    rw [if_neg nb, if_neg ns]
    by_cases h0 : c = 48
    · rw [if_pos h0]
      rfl
    · rw [if_neg h0, if_pos g]
      rfl
  · show textR z k = _
    unfold textR
    rw [h]
    dsimp only
    rw [if_neg]
    intro g
    refine hk ?_
    rw [g]
    decide
theorem f_on {z : Str} {k n c : Nat} (h : (cs z)[k]? = some c) (hn : n = 0 ∨ n = 2 ∨ n = 3) (hk : kdS c = n) : wordR z k = fR n z k := by
  rw [word_bgn h]
  unfold kdS at hk
  have bl := bgn_le c
  rcases hn with rfl | rfl | rfl
  · have e : bgn c = 0 := by split at hk <;> omega
    rw [if_neg (by omega), if_pos e]
    rfl
  · have e : bgn c = 1 ∨ bgn c = 2 := by split at hk <;> omega
    rw [if_neg (by omega), if_neg (by omega), if_pos e]
    rfl
  · have e : bgn c = 3 := by split at hk <;> omega
    rw [if_neg (by omega), if_neg (by omega), if_neg (by omega), if_pos e]
    rfl
theorem kd_rep : (List.range 7).all (fun b => decide (Txt.replace (rsS b) (Str.ofString "nought") (Str.ofString "number") = rsS (if b = 1 then 2 else b))) = true := by decide +kernel
theorem kd_rep' (c : Nat) : Txt.replace (rsS (bgn c)) (Str.ofString "nought") (Str.ofString "number") = rsS (kdS c) :=
  of_decide_eq_true (List.all_eq_true.mp kd_rep (bgn c) (List.mem_range.mpr (by have := bgn_le c; omega)))
theorem kd_le (c : Nat) : kdS c ≤ 6 := by
  unfold kdS
  have := bgn_le c
  split <;> omega
theorem reads_len {z : Str} {k : Nat} {acc : List Wd} {r : LRes} (h : Reads z k acc r) : ∀ l, r = .words l → l.length + k ≤ acc.length + z.length + 1 := by
  induction h with
  | bad h => intro l e; cases e
  | @last k t v acc h =>
    intro l e
    cases e
    have := word_end h
    rw [List.length_append, List.length_singleton]
    omega
  | off h _ _ => intro l e; cases e
  | @more k t v e acc r h _ _ ih =>
    intro l el
    have := ih l el
    have := word_end h
    rw [List.length_append, List.length_singleton] at *
    omega
theorem line_len {z : Str} {l : List Wd} (h : Line z (.words l)) : l.length ≤ z.length + 1 := by
  rcases h with ⟨_, e⟩ | ⟨_, h⟩
  · cases e
    exact Nat.zero_le _
  · have := reads_len h l rfl
    rw [List.length_nil] at this
    omega
end Q18

/-! defs whose body begins behind a token -/
namespace Rt
open PySem PySem.Spec PyProof.Rows L2 Dk
theorem fun_okT {P : Program} {w : World} {K : PySem.W.Frag} {mg : Str → Option Value} {base : Heap} {CX : CXT} {x qual : Str} {st : Stmt} {f : Addr} {fd : FuncData} {N ps : List Str} {k : Nat} {sp : Sp} (F : Fun K x qual st f fd) (S : FnScope N ps (defScope st))
    (hnc : ∀ y ∈ (defScope st).names, y.2 ≠ .cell) (hps : 1 ≤ ps.length) (len : ∀ vs H Q E, sp vs H Q E → vs.length = ps.length)
    (hb : ∀ (cdv : Value) (A : Around) (outer : List Env) (s : Shared) (H : Hp) (vs : List V) (Q : VK) (E : XK), Room k (A.deeper (envOfC qual (defScope st) s.heap.objs.size f cdv)) → sp vs H Q E →
      ∃ t, PSsT (cxOf CX P w K mg base N qual (defScope st) f cdv A outer s H E) (defBody st) t ∧ t { nx := fun _ H' => Q .non H', rt := Q } (start N vs) H) : FnOk P w K mg base CX (k + 1) f fd ps sp := by
  obtain ⟨_, _, _, _, _, _, _, _, _, rfl, lk, hcd⟩ := F.ex
  exact fn_ofT lk hcd S hnc hps len fun A outer s H vs Q E hr h => hb _ A outer s H vs Q E hr h
theorem pst_set {X : Cx} {i : Nat} {x : Str} {e : Expr} {te : TE} {pos pos' : Pos} (hN : X.N.Nodup) (hi : X.N[i]? = some x) (hx : Loc X.env.scope x) (he : PET X e te) (hs : swapsWith e (some (.Name x pos')) pos.line X.env = pure false := by rfl)
    (hf : X.fn x = true ∨ X.env.scope.names.lookup x = some .local := by first | exact .inl rfl | exact .inr rfl | assumption) : PST X (.Assign [.Name x pos'] e pos) (tAsg te (gName i)) := by
  intro pins s σ H D h0 I h
  refine wpAny_Assign_Name (thn (he pins s σ H _ h0 I h) fun v s1 ⟨y, H1, I1, r1, q1⟩ => ?_) hs
  exact store_ok I1 hN hi hx r1 (fun s2 I2 => ⟨_, H1, I2, q1⟩) hf
end Rt

namespace K18
open PySem PySem.Spec PyProof.Rows L2 Dk Q18
/-- one step of a reading -/
local macro_rules | `(tactic| walk_at "rd1") => `(tactic| first
  | ((with_reducible refine r_var (v := ?rv) ?rh ?_); (case rh => rfl))
  | with_reducible refine r_c ?_
  | with_reducible refine r_seq ?_
  | with_reducible refine r_asg ?_
  | with_reducible refine r_par ?_
  | with_reducible refine r_gname ?_
  | with_reducible refine r_op ?_
  | with_reducible refine r_forLo ?_
  | with_reducible refine r_forTo ?_
  | with_reducible refine r_forSo ?_
  | with_reducible refine r_forRo ?_
  | with_reducible refine r_forRvo ?_
  | with_reducible refine r_forZo ?_
  | with_reducible refine r_revS ?_
  | with_reducible refine r_lcRo ?_
  | with_reducible refine r_lcLo ?_
  | with_reducible refine r_yes ?_
  | with_reducible refine r_callK0 ?_
  | with_reducible refine r_break ?_
  | with_reducible refine r_continue ?_
  | with_reducible refine r_forR2o ?_
  | with_reducible refine r_forEo ?_
  | with_reducible refine r_forESo ?_
  | with_reducible refine r_xfo ?_
  | with_reducible refine r_noP ?_
  | with_reducible refine r_part ?_
  | with_reducible refine r_pI ?_
  | with_reducible refine r_gcons ?_
  | with_reducible refine r_gnil ?_
  | with_reducible refine r_mkO ?_
  | with_reducible refine r_un ?_
  | with_reducible refine r_addI ?_
  | with_reducible refine r_I0 ?_
  | with_reducible refine r_U ?_
  | with_reducible refine r_cons ?_
  | with_reducible refine r_nil ?_
  | with_reducible refine r_CB ?_
  | with_reducible refine r_call ?_
  | with_reducible refine r_callS ?_
  | with_reducible refine r_int ?_
  | with_reducible refine r_max ?_
  | with_reducible refine r_min ?_
  | with_reducible refine r_test ?_
  | with_reducible refine r_B ?_
  | with_reducible refine r_blv ?_
  | with_reducible refine r_and ?_
  | with_reducible refine r_or ?_
  | with_reducible refine r_not ?_
  | with_reducible refine r_andV ?_
  | with_reducible refine r_orV ?_
  | with_reducible refine r_notV ?_
  | with_reducible refine r_ifE ?_
  | with_reducible refine r_ifS ?_
  | with_reducible refine r_ret ?_
  | with_reducible refine r_retN ?_
  | with_reducible refine r_drop ?_
  | with_reducible refine r_next ?_
  | with_reducible refine r_sl ?_
  | with_reducible refine r_gsub ?_
  | with_reducible refine r_bm ?_
  | with_reducible refine r_bm0 ?_
  | with_reducible refine r_tup ?_
  | with_reducible refine r_lst ?_
  | with_reducible refine r_isN ?_
  | with_reducible refine r_notN ?_
  | with_reducible refine r_chain ?_
  | with_reducible refine r_callK ?_
  | with_reducible refine r_isB ?_
  | with_reducible refine r_lcEio ?_
  | with_reducible refine r_forEi ?_
  | with_reducible refine r_lcTo ?_
  | with_reducible refine r_lcSo ?_
  | with_reducible refine r_m1 ?_
  | with_reducible refine r_dget ?_
  | with_reducible refine r_din ?_
  | with_reducible refine r_dnotin ?_
  | with_reducible refine r_starC ?_
  | with_reducible refine r_callKS ?_
  | with_reducible refine r_itt ?_
  | with_reducible refine r_iff ?_
  | with_reducible refine r_ittN ?_
  | with_reducible refine r_iffN ?_
  | ((with_reducible refine r_ittD ?rh ?_); (case rh => rfl))
  | ((with_reducible refine r_iffD ?rh ?_); (case rh => rfl))
  | ((with_reducible refine r_modP ?rh ?_); (case rh => decide))
  | ((with_reducible refine r_eq ?rh ?_); (case rh => rfl))
  | ((with_reducible refine r_eqP ?rh ?_); (case rh => rfl))
  | ((with_reducible refine r_ne ?rh ?_); (case rh => rfl)))
local macro_rules | `(tactic| walk_at "rd") => `(tactic| repeat walk_at "rd1")
local macro_rules | `(tactic| walk_at "isi") => `(tactic| first | refine r_isi (b := true) (by assumption) (by decide +kernel) ?_ | refine r_isi (b := false) (by assumption) (by decide +kernel) ?_)
local macro_rules | `(tactic| walk_at "rs1") => `(tactic| first
  | with_reducible refine r_seq ?_
  | with_reducible refine r_asg ?_
  | with_reducible refine r_gname ?_
  | with_reducible refine r_ret ?_)
local macro_rules | `(tactic| walk_at "rs") => `(tactic| repeat walk_at "rs1")

def spQuote : Sp := fun vs H Q _ => ∃ z : Str, vs = [.str z] ∧ z.length ≤ 4000 ∧ Q (.str (quoteQ z)) H
def spIs : Sp := fun vs H Q _ => ∃ v : V, vs = [v, v] ∧ Sc v ∧ Q (.bl true) H
def spPair : Sp := fun vs H Q _ => ∃ (x y a b : V) (p q : Addr), vs = [.ref p, .ref q] ∧ H p = some (.tup [a, b]) ∧ H q = some (.tup [a, b]) ∧ Sc a ∧ Sc b ∧ Q (.bl true) H
theorem chain_ok {z : Str} : Txt.replace (Txt.replace (Txt.replace z (Str.ofString "\\") (Str.ofString "\\\\")) (Str.ofString "\"") (Str.ofString "\\\"")) (Str.ofString "\n") (Str.ofString "\\n") = escQ z := by
  unfold escQ
  rw [backS, quoteS, feedS', show Str.ofString "\\\\" = ⟨#[92, 92]⟩ by decide +kernel, show Str.ofString "\\\"" = ⟨#[92, 34]⟩ by decide +kernel, show Str.ofString "\\n" = ⟨#[92, 110]⟩ by decide +kernel]
theorem b1 {z : Str} (h : z.length ≤ 4000) : z.length + (z.length + 1) * (Str.ofString "\\\\").length ≤ 16777216 := by
  rw [show (Str.ofString "\\\\").length = 2 by decide +kernel]
  omega
theorem b2 {z : Str} (h : z.length ≤ 4000) : (Txt.replace z (Str.ofString "\\") (Str.ofString "\\\\")).length + ((Txt.replace z (Str.ofString "\\") (Str.ofString "\\\\")).length + 1) * (Str.ofString "\\\"").length ≤ 16777216 := by
  have l2 : (Str.ofString "\\\"").length = 2 := by decide +kernel
  have := rep_le (x := z) (c := 92) (w := Str.ofString "\\\\") (by decide +kernel)
  rw [backS, l2]
  omega
theorem b3 {z : Str} (h : z.length ≤ 4000) : (Txt.replace (Txt.replace z (Str.ofString "\\") (Str.ofString "\\\\")) (Str.ofString "\"") (Str.ofString "\\\"")).length + ((Txt.replace (Txt.replace z (Str.ofString "\\") (Str.ofString "\\\\")) (Str.ofString "\"") (Str.ofString "\\\"")).length + 1) * (Str.ofString "\\n").length ≤ 16777216 := by
  have l2 : (Str.ofString "\\n").length = 2 := by decide +kernel
  have h1 := rep_le (x := z) (c := 92) (w := Str.ofString "\\\\") (by decide +kernel)
  have h2 := rep_le (x := Txt.replace z ⟨#[92]⟩ (Str.ofString "\\\\")) (c := 34) (w := Str.ofString "\\\"") (by decide +kernel)
  rw [backS, quoteS, l2]
  omega
section
variable {P : Program} {w : World} {K : PySem.W.Frag} {mg : Str → Option Value} {base : Heap}
theorem ok_quote (T : Txt K mg) : FnOk P w K mg base CX0 1 T.a_quote T.d_quote ["text"] spQuote := by
  refine Rt.fun_okT T.F_quote sc_quote (by decide +kernel) (by decide) (fun vs H Q E h => ?_) (fun cdv A outer s H vs Q E hr h => ?_)
  · obtain ⟨z, rfl, _⟩ := h
    rfl
  · obtain ⟨z, rfl, hz, q⟩ := h
    refine ⟨_, (psst_cons (Rt.pst_set (i := 1) sc_quote.nd rfl (Or.inl rfl) (CwR.pet_replT (CwR.pet_replT (CwR.pet_replC (pv 0))))) (psst_cons (CwR.pst_ret (CwR.pet_op op_addU (CwR.pet_op op_addU (CwR.PET.of pe_str) (CwR.PET.of (pv 1))) (CwR.PET.of pe_str))) CwR.psst_nil)), ?_⟩
    have el := esc_le z
    walk_at "rd"
    unfold CwR.tReplC
    walk_at "rd"
    refine ⟨_, rfl, b1 hz, _, rfl, b2 hz, _, rfl, b3 hz, ?_⟩
    rw [chain_ok]
    walk_at "rd"
    have ql : (Str.ofString "\"").length = 1 := by decide +kernel
    refine r_addS (by rw [ql, sizeLine_eq]; omega) ?_
    walk_at "rd"
    refine r_addS (by rw [app_len, ql, sizeLine_eq]; omega) ?_
    have e : Str.ofString "\"" ++ escQ z ++ Str.ofString "\"" = quoteQ z := by rw [quoteS]; rfl
    rw [e]
    exact q
theorem ok_law_quoted (T : Txt K mg) : FnOk P w K mg base CX0 1 T.a_law_quoted T.d_law_quoted ["_law_text_here"] spQuote := by
  refine Rt.fun_okT T.F_law_quoted sc_law_quoted (by decide +kernel) (by decide) (fun vs H Q E h => ?_) (fun cdv A outer s H vs Q E hr h => ?_)
  · obtain ⟨z, rfl, _⟩ := h
    rfl
  · obtain ⟨z, rfl, hz, q⟩ := h
    refine ⟨_, (psst_cons (CwR.pst_ret (CwR.pet_op op_addU (CwR.pet_op op_addU (CwR.PET.of pe_str) (CwR.pet_replT (CwR.pet_replT (CwR.pet_replC (pv 0))))) (CwR.PET.of pe_str))) CwR.psst_nil), ?_⟩
    have el := esc_le z
    walk_at "rd"
    unfold CwR.tReplC
    walk_at "rd"
    refine ⟨_, rfl, b1 hz, _, rfl, b2 hz, _, rfl, b3 hz, ?_⟩
    rw [chain_ok]
    have ql : (Str.ofString "\"").length = 1 := by decide +kernel
    refine r_addS (by rw [ql, sizeLine_eq]; omega) ?_
    walk_at "rd"
    refine r_addS (by rw [app_len, ql, sizeLine_eq]; omega) ?_
    have e : Str.ofString "\"" ++ escQ z ++ Str.ofString "\"" = quoteQ z := by rw [quoteS]; rfl
    rw [e]
    exact q
theorem ok_law_is (T : Txt K mg) : FnOk P w K mg base CX0 1 T.a_law_is T.d_law_is ["_law_due", "_law_told"] spIs := by
  refine T.F_law_is.ok sc_law_is (fun vs H Q E h => ?_) (fun cdv A outer s H vs Q E hr h => ?_)
  · obtain ⟨v, rfl, _⟩ := h
    rfl
  · obtain ⟨v, rfl, hv, q⟩ := h
    refine ⟨_, (pss_cons (ps_if (pt_val (pe_callB call_isi (by rfl) T.n_isinstance (by decide +kernel) (pa_cons (pv 0) (pa_cons (pe_bltn (v := .ty "str") (by rfl) T.n_str (by decide +kernel) rfl) pa_nil)))) (pss_one (ps_ret (pe_and (pe_callB call_isi (by rfl) T.n_isinstance (by decide +kernel) (pa_cons (pv 1) (pa_cons (pe_bltn (v := .ty "str") (by rfl) T.n_str (by decide +kernel) rfl) pa_nil))) (pe_one (pe_cmpR (op_eqU hr.units) (pv 1) (pv 0) (nomark _)))))) pss_nil)
        (pss_one (ps_ret (pe_and (pe_callB call_isi (by rfl) T.n_isinstance (by decide +kernel) (pa_cons (pv 1) (pa_cons (pe_bltn (v := .ty "int") (by rfl) T.n_int (by decide +kernel) rfl) pa_nil))) (pe_and (pe_not (pe_callB call_isi (by rfl) T.n_isinstance (by decide +kernel) (pa_cons (pv 1) (pa_cons (pe_bltn (v := .ty "bool") (by rfl) T.n_bool (by decide +kernel) rfl) pa_nil)))) (pe_one (pe_cmpR (op_eqU hr.units) (pv 1) (pv 0) (nomark _)))))))), ?_⟩
    rcases hv with ⟨z, rfl⟩ | ⟨i, rfl⟩
    · walk_at "rd"
      refine r_isi (b := true) (.base (.str z)) (by decide +kernel) ?_
      walk_at "rd"
      refine r_isi (b := true) (.base (.str z)) (by decide +kernel) ?_
      walk_at "rd"
      rw [decide_eq_true rfl]
      exact q
    · walk_at "rd"
      refine r_isi (b := false) (.base (.int i)) (by decide +kernel) ?_
      walk_at "rd"
      refine r_isi (b := true) (.base (.int i)) (by decide +kernel) ?_
      walk_at "rd"
      refine r_isi (b := false) (.base (.int i)) (by decide +kernel) ?_
      walk_at "rd"
      rw [decide_eq_true rfl]
      exact q
theorem ok_law_pair (T : Txt K mg) : FnOk P w K mg base CX0 2 T.a_law_pair T.d_law_pair ["_law_due", "_law_told"] spPair := by
  refine T.F_law_pair.ok sc_law_pair (fun vs H Q E h => ?_) (fun cdv A outer s H vs Q E hr h => ?_)
  · obtain ⟨x, y, a, b, p1, p2, rfl, _⟩ := h
    rfl
  · obtain ⟨_, _, a, b, p1, p2, rfl, h1, h2, ha, hb, q⟩ := h
    refine ⟨_, (pss_cons (ps_if (PW.pt (pw_or (pt_not (pt_val (pe_callB call_isi (by rfl) T.n_isinstance (by decide +kernel) (pa_cons (pv 1) (pa_cons (pe_bltn (v := .ty "tuple") (by rfl) T.n_tuple (by decide +kernel) rfl) pa_nil))))) (pw_or1 (pt_cmpR (op_neU hr.units) (pe_callB call_lenU (by rfl) T.n_len (by decide +kernel) (pa_cons (pv 1) pa_nil)) pe_int (nomark _))))) (pss_one (ps_ret pe_bl)) pss_nil)
        (pss_one (ps_ret (pe_and (pe_call (ok_law_is T) hr (by rfl) T.g_law_is T.F_law_is.kp T.b_law_is .nil pass0 (pa_cons (pe_ix ix_seq (pv 0) pe_int (fun _ _ => rfl)) (pa_cons (pe_ix ix_seq (pv 1) pe_int (fun _ _ => rfl)) pa_nil))) (pe_one (pe_call (ok_law_is T) hr (by rfl) T.g_law_is T.F_law_is.kp T.b_law_is .nil pass0 (pa_cons (pe_ix ix_seq (pv 0) pe_int (fun _ _ => rfl)) (pa_cons (pe_ix ix_seq (pv 1) pe_int (fun _ _ => rfl)) pa_nil)))))))), ?_⟩
    walk_at "rd"
    refine r_isi (b := true) (.base (.tup h2)) (by decide +kernel) ?_
    walk_at "rd"
    refine r_lenT (sqT h2) ?_
    walk_at "rd"
    refine r_ixT (sqT h1) (atI_nat (j := 0) rfl) ?_
    walk_at "rd"
    refine r_ixT (sqT h2) (atI_nat (j := 0) rfl) ?_
    walk_at "rd"
    refine ⟨_, rfl, ha, ?_⟩
    walk_at "rd"
    refine r_ixT (sqT h1) (atI_nat (j := 1) rfl) ?_
    walk_at "rd"
    refine r_ixT (sqT h2) (atI_nat (j := 1) rfl) ?_
    walk_at "rd"
    refine ⟨_, rfl, hb, ?_⟩
    walk_at "rd"
    exact q
end
end K18

namespace K18
open PySem PySem.Spec PyProof.Rows L2 Dk Q18
/-- one step of a reading -/
local macro_rules | `(tactic| walk_at "rd1") => `(tactic| first
  | ((with_reducible refine r_var (v := ?rv) ?rh ?_); (case rh => rfl))
  | with_reducible refine r_c ?_
  | with_reducible refine r_seq ?_
  | with_reducible refine r_asg ?_
  | with_reducible refine r_par ?_
  | with_reducible refine r_gname ?_
  | with_reducible refine r_op ?_
  | with_reducible refine r_forLo ?_
  | with_reducible refine r_forTo ?_
  | with_reducible refine r_forSo ?_
  | with_reducible refine r_forRo ?_
  | with_reducible refine r_forRvo ?_
  | with_reducible refine r_forZo ?_
  | with_reducible refine r_revS ?_
  | with_reducible refine r_lcRo ?_
  | with_reducible refine r_lcLo ?_
  | with_reducible refine r_yes ?_
  | with_reducible refine r_callK0 ?_
  | with_reducible refine r_break ?_
  | with_reducible refine r_continue ?_
  | with_reducible refine r_forR2o ?_
  | with_reducible refine r_forEo ?_
  | with_reducible refine r_forESo ?_
  | with_reducible refine r_xfo ?_
  | with_reducible refine r_noP ?_
  | with_reducible refine r_part ?_
  | with_reducible refine r_pI ?_
  | with_reducible refine r_gcons ?_
  | with_reducible refine r_gnil ?_
  | with_reducible refine r_mkO ?_
  | with_reducible refine r_un ?_
  | with_reducible refine r_addI ?_
  | with_reducible refine r_I0 ?_
  | with_reducible refine r_U ?_
  | with_reducible refine r_cons ?_
  | with_reducible refine r_nil ?_
  | with_reducible refine r_CB ?_
  | with_reducible refine r_call ?_
  | with_reducible refine r_callS ?_
  | with_reducible refine r_int ?_
  | with_reducible refine r_max ?_
  | with_reducible refine r_min ?_
  | with_reducible refine r_test ?_
  | with_reducible refine r_B ?_
  | with_reducible refine r_blv ?_
  | with_reducible refine r_and ?_
  | with_reducible refine r_or ?_
  | with_reducible refine r_not ?_
  | with_reducible refine r_andV ?_
  | with_reducible refine r_orV ?_
  | with_reducible refine r_notV ?_
  | with_reducible refine r_ifE ?_
  | with_reducible refine r_ifS ?_
  | with_reducible refine r_ret ?_
  | with_reducible refine r_retN ?_
  | with_reducible refine r_drop ?_
  | with_reducible refine r_next ?_
  | with_reducible refine r_sl ?_
  | with_reducible refine r_gsub ?_
  | with_reducible refine r_bm ?_
  | with_reducible refine r_bm0 ?_
  | with_reducible refine r_tup ?_
  | with_reducible refine r_lst ?_
  | with_reducible refine r_isN ?_
  | with_reducible refine r_notN ?_
  | with_reducible refine r_chain ?_
  | with_reducible refine r_callK ?_
  | with_reducible refine r_isB ?_
  | with_reducible refine r_lcEio ?_
  | with_reducible refine r_forEi ?_
  | with_reducible refine r_lcTo ?_
  | with_reducible refine r_lcSo ?_
  | with_reducible refine r_m1 ?_
  | with_reducible refine r_dget ?_
  | with_reducible refine r_din ?_
  | with_reducible refine r_dnotin ?_
  | with_reducible refine r_starC ?_
  | with_reducible refine r_callKS ?_
  | with_reducible refine r_itt ?_
  | with_reducible refine r_iff ?_
  | with_reducible refine r_ittN ?_
  | with_reducible refine r_iffN ?_
  | ((with_reducible refine r_ittD ?rh ?_); (case rh => rfl))
  | ((with_reducible refine r_iffD ?rh ?_); (case rh => rfl))
  | ((with_reducible refine r_modP ?rh ?_); (case rh => decide))
  | ((with_reducible refine r_eq ?rh ?_); (case rh => rfl))
  | ((with_reducible refine r_eqP ?rh ?_); (case rh => rfl))
  | ((with_reducible refine r_ne ?rh ?_); (case rh => rfl)))
local macro_rules | `(tactic| walk_at "rd") => `(tactic| repeat walk_at "rd1")
local macro_rules | `(tactic| walk_at "isi") => `(tactic| first | refine r_isi (b := true) (by assumption) (by decide +kernel) ?_ | refine r_isi (b := false) (by assumption) (by decide +kernel) ?_)
local macro_rules | `(tactic| walk_at "rs1") => `(tactic| first
  | with_reducible refine r_seq ?_
  | with_reducible refine r_asg ?_
  | with_reducible refine r_gname ?_
  | with_reducible refine r_ret ?_)
local macro_rules | `(tactic| walk_at "rs") => `(tactic| repeat walk_at "rs1")

def spRead : Sp := fun vs H Q _ => ∃ z : Str, vs = [.str z] ∧ z.length ≤ 6000 ∧ (∀ l, Line z (.words l) → ∀ p q xs H', Ex H H' → H' p = some (.tup [.str "words", .ref q]) → H' q = some (.tup xs) → P2 (W2 H') xs l → Q (.ref p) H') ∧
  (∀ k, Line z (.bad k) → ∀ p H', Ex H H' → H' p = some (.tup [.str "bad", .int (k : Nat)]) → Q (.ref p) H')
def spHolds : Sp := fun vs H Q _ => ∃ z : Str, vs = [.str z] ∧ z.length ≤ 6000 ∧ ∀ H', Ex H H' → Q (.bl true) H'
def spReader : Sp := fun vs H Q _ => ∃ (n : Nat) (z : Str) (k : Nat), vs = [.str (rsS n), .str z, .int (k : Nat)] ∧ (n = 0 ∨ n = 2 ∨ n = 3) ∧ k ≤ z.length ∧ z.length ≤ 6000 ∧ (∀ t v e, fR n z k = .ok t v e → ∀ x H', Ex H H' → T2 H' x v e → Q x H') ∧
  (∀ p, fR n z k = .bad p → ∀ a H', Ex H H' → H' a = some (.lst [.str "bad", .int (p : Nat)]) → Q (.ref a) H')
def spQuotes : Sp := fun vs H Q _ => ∃ t a b : Str, vs = [.str t, .str a, .str b] ∧ t.length ≤ 2000 ∧ a.length ≤ 10 ∧ b.length ≤ 10 ∧ ∀ H', Ex H H' → Q (.bl true) H'
theorem t1_up {H H' : Hp} {x : V} {r : Res} (h : T1 H x r) (t : Tk H H') : T1 H' x r := by
  cases r with
  | bad p =>
    obtain ⟨a, e, g⟩ := h
    exact ⟨a, e, t _ _ g⟩
  | ok w v e =>
    obtain ⟨a, u, e1, g, hu⟩ := h
    exact ⟨a, u, e1, t _ _ g, imm t hu⟩
section
variable {P : Program} {w : World} {K : PySem.W.Frag} {mg : Str → Option Value} {base : Heap}
theorem ok_law_read (T : Txt K mg) : FnOk P w K mg base CX0 9 T.a_law_read T.d_law_read ["_law_line"] spRead := by
  refine T.F_law_read.ok sc_law_read (fun vs H Q E h => ?_) (fun cdv A outer s H vs Q E hr h => ?_)
  · obtain ⟨z, rfl, _⟩ := h
    rfl
  · obtain ⟨z, rfl, hz, q, qB⟩ := h
    refine ⟨_, (pss_cons (ps_try_as (i := 2) rfl rfl sc_law_read.nd rfl rfl ⟨rfl, by decide, .inl T.g_BadLine⟩ takes0 (fun W pn xe tk hpo => (pss_one (ps_set (i := 1) sc_law_read.nd rfl (Or.inl rfl) (pe_callS (ok_words_of T) hr rfl T.g_words_of T.F_words_of.kp T.b_words_of (fun σ => passAt tk σ) (pa_cons (pv 0) pa_nil))))) (fun a oe cls d pn hz hf => (pss_one (ps_ret (pe_tup (pa_cons pe_str (pa_cons (pe_xf T.x_BadLine T.na_BadLine_at hz hf (pv 2)) pa_nil)))))))
        (pss_one (ps_ret (pe_tup (pa_cons pe_str (pa_cons (pv 1) pa_nil)))))), ?_⟩
    walk_at "rd"
    refine ⟨z, rfl, hz, fun l hl p xs H1 e1 gp hp => ?_, fun k hk H1 d e1 hd hd1 => ?_⟩
    · walk_at "rd"
      refine r_small nsz fun a ha => ?_
      have x2 := Same.new (o := HO.tup [.str "words", .ref p]) (Same.refl H1) ha
      exact q l hl a p xs _ (e1.trans x2) upd_same (x2 _ _ gp) (p2_imm (Tk.ex x2) hp)
    · refine ⟨true, T.e_BadLine, fun _ a0 _ => ?_, fun q => Bool.noConfusion q⟩
      walk_at "rd"
      refine ⟨rfl, rfl, d, _, _, rfl, hd1, rfl, ?_⟩
      walk_at "rd"
      refine r_small nsz fun a ha => ?_
      exact qB k hk a _ (e1.trans (Same.new (Same.refl _) ha)) upd_same
theorem ok_law_holds (T : Txt K mg) : FnOk P w K mg base CX0 10 T.a_law_holds T.d_law_holds ["_law_line"] spHolds := by
  refine T.F_law_holds.ok sc_law_holds (fun vs H Q E h => ?_) (fun cdv A outer s H vs Q E hr h => ?_)
  · obtain ⟨z, rfl, _⟩ := h
    rfl
  · obtain ⟨z, rfl, hz, q⟩ := h
    refine ⟨_, (pss_cons (ps_set (i := 1) sc_law_holds.nd rfl (Or.inr rfl) (pe_call (ok_law_words T) (hr.mono (by decide)) (by rfl) T.g_law_words T.F_law_words.kp T.b_law_words .nil pass0 (pa_cons (pv 0) pa_nil)))
        (pss_cons (ps_set (i := 2) sc_law_holds.nd rfl (Or.inr rfl) (pe_call (ok_law_read T) hr (by rfl) T.g_law_read T.F_law_read.kp T.b_law_read .nil pass0 (pa_cons (pv 0) pa_nil)))
        (pss_cons (ps_if (pt_cmpR (op_neU hr.units) (pe_ix ix_seq (pv 1) pe_int (fun _ _ => rfl)) (pe_ix ix_seq (pv 2) pe_int (fun _ _ => rfl)) (nomark _)) (pss_one (ps_ret pe_bl)) pss_nil)
        (pss_cons (ps_if (pt_cmpR (op_eqU hr.units) (pe_ix ix_seq (pv 1) pe_int (fun _ _ => rfl)) pe_str (nomark _)) (pss_one (ps_ret (pe_call (ok_law_is T) (hr.mono (by decide)) (by rfl) T.g_law_is T.F_law_is.kp T.b_law_is .nil pass0 (pa_cons (pe_ix ix_seq (pv 1) pe_int (fun _ _ => rfl)) (pa_cons (pe_ix ix_seq (pv 2) pe_int (fun _ _ => rfl)) pa_nil))))) pss_nil)
        (pss_cons (ps_if (PW.pt (pw_or (pt_not (pt_val (pe_callB call_isi (by rfl) T.n_isinstance (by decide +kernel) (pa_cons (pe_ix ix_seq (pv 2) pe_int (fun _ _ => rfl)) (pa_cons (pe_bltn (v := .ty "tuple") (by rfl) T.n_tuple (by decide +kernel) rfl) pa_nil))))) (pw_or1 (pt_cmpR (op_neU hr.units) (pe_callB call_lenU (by rfl) T.n_len (by decide +kernel) (pa_cons (pe_ix ix_seq (pv 2) pe_int (fun _ _ => rfl)) pa_nil)) (pe_callB call_lenU (by rfl) T.n_len (by decide +kernel) (pa_cons (pe_ix ix_seq (pv 1) pe_int (fun _ _ => rfl)) pa_nil)) (nomark _))))) (pss_one (ps_ret pe_bl)) pss_nil)
        (pss_one (ps_ret (pe_cmpR (op_eqU hr.units) (pe_callB call_lenU (by rfl) T.n_len (by decide +kernel) (pa_cons (pe_lc (own := [("_law_k", 3)]) (g := gName 3) rfl sc_law_holds.nd (pi_range1 (by rfl) T.n_range (pa_cons (pe_callB call_lenU (by rfl) T.n_len (by decide +kernel) (pa_cons (pe_ix ix_seq (pv 1) pe_int (fun _ _ => rfl)) pa_nil)) pa_nil)) (blkOk_by (N := N_law_holds) (sc := defScope s_law_holds) (by decide +kernel)) (fun _ _ _ _ _ => pg_name (i := 3) sc_law_holds.nd rfl (Or.inl rfl)) (fun _ _ _ _ _ => (pts_one (pt_not (pt_val (pe_call (ok_law_pair T) (hr.mono (by decide)) (by rfl) T.g_law_pair T.F_law_pair.kp T.b_law_pair .nil pass0 (pa_cons (pe_ix (k_ix (K := K) rfl) (pe_ix (k_ix (K := K) rfl) (pv 1) pe_int (fun _ _ => rfl)) (pv 3) (fun _ _ => rfl)) (pa_cons (pe_ix (k_ix (K := K) rfl) (pe_ix (k_ix (K := K) rfl) (pv 2) pe_int (fun _ _ => rfl)) (pv 3) (fun _ _ => rfl)) pa_nil))))))) (fun _ _ _ _ _ => (pv 3))) pa_nil)) pe_int (nomark _))))))))), ?_⟩
    walk_at "rd"
    refine ⟨z, rfl, hz, fun l hl p L xs H1 e1 gp gL hp => ?_, fun k hk p H1 e1 gp => ?_⟩
    · walk_at "rd"
      refine ⟨z, rfl, hz, fun l' hl' p2 q2 ys H2 e2 gp2 gq2 hp2 => ?_, fun k hk => absurd (line_one hl hk) (fun h => nomatch h)⟩
      have el := line_one hl hl'
      cases el
      have gp' := e2 _ _ gp
      have gL' := e2 _ _ gL
      have hp' := p2_imm (Tk.ex e2) hp
      have sc := line_sc hl
      have ll := line_len hl
      have xl := hp'.len
      have yl := hp2.len
      walk_at "rd"
      refine r_ixT (sqT gp') (atI_nat (j := 0) rfl) ?_
      walk_at "rd"
      refine r_ixT (sqT gp2) (atI_nat (j := 0) rfl) ?_
      walk_at "rd"
      refine r_ixT (sqT gp') (atI_nat (j := 0) rfl) ?_
      walk_at "rd"
      refine r_ixT (sqT gp2) (atI_nat (j := 1) rfl) ?_
      walk_at "rd"
      refine r_isi (b := true) (.base (.tup gq2)) (by decide +kernel) ?_
      walk_at "rd"
      refine r_ixT (sqT gp2) (atI_nat (j := 1) rfl) ?_
      walk_at "rd"
      refine r_lenT (sqT gq2) ?_
      walk_at "rd"
      refine r_ixT (sqT gp') (atI_nat (j := 1) rfl) ?_
      walk_at "rd"
      refine r_lenL (sqL gL') ?_
      rw [xl, yl]
      walk_at "rd"
      refine r_iteN (fun h => absurd rfl h) (fun _ => ?_)
      walk_at "rd"
      refine r_ixT (sqT gp') (atI_nat (j := 1) rfl) ?_
      walk_at "rd"
      refine r_lenL (sqL gL') ?_
      walk_at "rd"
      refine l_lcR (by omega) (by omega) (fun C i H3 => Ex H2 H3 ∧ H3 C = some (.lst [])) (fun C hC => ⟨Same.new (Same.refl _) hC, upd_same⟩) (fun C i H3 hC hi hP => ?_) (fun C H3 hC hP => ?_)
      · obtain ⟨e, gC⟩ := hP
        obtain ⟨x, hx⟩ : ∃ x, xs[i]? = some x := ⟨_, List.getElem?_eq_getElem (by omega)⟩
        obtain ⟨wd, hwd, qx, rfl, gx⟩ := hp'.get hx
        obtain ⟨y, hy, qy, rfl, gy⟩ := hp2.get' hwd
        walk_at "rd"
        refine ⟨rfl, ?_⟩
        walk_at "rd"
        refine r_ixT (sqT (e _ _ gp')) (atI_nat (j := 1) rfl) ?_
        walk_at "rd"
        refine r_ixL (sqL (e _ _ gL')) (atI_nat hx) ?_
        walk_at "rd"
        refine r_ixT (sqT (e _ _ gp2)) (atI_nat (j := 1) rfl) ?_
        walk_at "rd"
        refine r_ixT (sqT (e _ _ gq2)) (atI_nat hy) ?_
        walk_at "rd"
        refine ⟨.non, .non, _, _, qx, qy, rfl, e _ _ gx, e _ _ gy, .inl ⟨_, rfl⟩, sc wd (List.mem_of_getElem? hwd), ?_⟩
        walk_at "rd"
        exact ⟨e, gC⟩
      · obtain ⟨e, gC⟩ := hP
        walk_at "rd"
        refine r_lenL (sqL gC) ?_
        walk_at "rd"
        exact q H3 (e1.trans (e2.trans e))
    · walk_at "rd"
      refine ⟨z, rfl, hz, fun l hl => absurd (line_one hk hl) (fun h => nomatch h), fun k' hk' p2 H2 e2 gp2 => ?_⟩
      have ek := line_one hk hk'
      cases ek
      have gp' := e2 _ _ gp
      walk_at "rd"
      refine r_ixT (sqT gp') (atI_nat (j := 0) rfl) ?_
      walk_at "rd"
      refine r_ixT (sqT gp2) (atI_nat (j := 0) rfl) ?_
      walk_at "rd"
      refine r_ixT (sqT gp') (atI_nat (j := 0) rfl) ?_
      walk_at "rd"
      refine r_ixT (sqT gp') (atI_nat (j := 1) rfl) ?_
      walk_at "rd"
      refine r_ixT (sqT gp2) (atI_nat (j := 1) rfl) ?_
      walk_at "rd"
      refine ⟨_, rfl, .inr ⟨_, rfl⟩, ?_⟩
      exact q H2 (e1.trans e2)
theorem ok_law_reader (T : Txt K mg) : FnOk P w K mg base CX0 6 T.a_law_reader T.d_law_reader ["_law_which", "_law_line", "_law_at"] spReader := by
  refine T.F_law_reader.ok sc_law_reader (fun vs H Q E h => ?_) (fun cdv A outer s H vs Q E hr h => ?_)
  · obtain ⟨n, z, k, rfl, _⟩ := h
    rfl
  · obtain ⟨n, z, k, rfl, hn, hk, hz, q, qB⟩ := h
    refine ⟨_, (pss_cons (ps_try_as (i := 4) rfl rfl sc_law_reader.nd rfl rfl ⟨rfl, by decide, .inl T.g_BadLine⟩ takes0 (fun W pn xe tk hpo => (pss_one (ps_if (pt_cmpR op_eq (pv 0) pe_str (nomark _)) (pss_one (ps_set (i := 3) sc_law_reader.nd rfl (Or.inl rfl) (pe_callS (ok_name_at T) (hr.mono (by decide)) rfl T.g_name_at T.F_name_at.kp T.b_name_at (fun σ => passAt tk σ) (pa_cons (pv 1) (pa_cons (pv 2) pa_nil))))) (pss_one (ps_if (pt_cmpR op_eq (pv 0) pe_str (nomark _)) (pss_one (ps_set (i := 3) sc_law_reader.nd rfl (Or.inl rfl) (pe_callS (ok_number_at T) (hr.mono (by decide)) rfl T.g_number_at T.F_number_at.kp T.b_number_at (fun σ => passAt tk σ) (pa_cons (pv 1) (pa_cons (pv 2) pa_nil))))) (pss_one (ps_set (i := 3) sc_law_reader.nd rfl (Or.inl rfl) (pe_callS (ok_unquote T) hr rfl T.g_unquote T.F_unquote.kp T.b_unquote (fun σ => passAt tk σ) (pa_cons (pv 1) (pa_cons (pv 2) pa_nil)))))))))) (fun a oe cls d pn hz hf => (pss_one (ps_ret (pe_lst (pa_cons pe_str (pa_cons (pe_xf T.x_BadLine T.na_BadLine_at hz hf (pv 4)) pa_nil)))))))
        (pss_one (ps_ret (pv 3)))), ?_⟩
    walk_at "rd"
    rcases hn with rfl | rfl | rfl
    · walk_at "rd"
      refine ⟨z, k, rfl, hk, hz, fun t v e hr x H1 e1 hx => ?_, fun p hp H1 d e1 hd hd1 => ?_⟩
      · walk_at "rd"
        exact q t v e hr x H1 e1 hx
      · refine ⟨true, T.e_BadLine, fun _ a0 _ => ?_, fun q => Bool.noConfusion q⟩
        walk_at "rd"
        refine ⟨rfl, rfl, d, _, _, rfl, hd1, rfl, ?_⟩
        walk_at "rd"
        refine r_small nsz fun a ha => ?_
        exact qB p hp a _ (e1.trans (Same.new (Same.refl _) ha)) upd_same
    · walk_at "rd"
      refine ⟨z, k, rfl, hk, hz, fun t v e hr x H1 e1 hx => ?_, fun p hp H1 d e1 hd hd1 => ?_⟩
      · walk_at "rd"
        exact q t v e hr x H1 e1 hx
      · refine ⟨true, T.e_BadLine, fun _ a0 _ => ?_, fun q => Bool.noConfusion q⟩
        walk_at "rd"
        refine ⟨rfl, rfl, d, _, _, rfl, hd1, rfl, ?_⟩
        walk_at "rd"
        refine r_small nsz fun a ha => ?_
        exact qB p hp a _ (e1.trans (Same.new (Same.refl _) ha)) upd_same
    · walk_at "rd"
      refine ⟨z, k, rfl, hk, hz, fun t v e hr x H1 e1 hx => ?_, fun p hp H1 d e1 hd hd1 => ?_⟩
      · walk_at "rd"
        exact q t v e hr x H1 e1 hx
      · refine ⟨true, T.e_BadLine, fun _ a0 _ => ?_, fun q => Bool.noConfusion q⟩
        walk_at "rd"
        refine ⟨rfl, rfl, d, _, _, rfl, hd1, rfl, ?_⟩
        walk_at "rd"
        refine r_small nsz fun a ha => ?_
        exact qB p hp a _ (e1.trans (Same.new (Same.refl _) ha)) upd_same
theorem ok_law_places (T : Txt K mg) : FnOk P w K mg base CX0 7 T.a_law_places T.d_law_places ["_law_line"] spHolds := by
  refine T.F_law_places.ok sc_law_places (fun vs H Q E h => ?_) (fun cdv A outer s H vs Q E hr h => ?_)
  · obtain ⟨z, rfl, _⟩ := h
    rfl
  · obtain ⟨z, rfl, hz, q⟩ := h
    refine ⟨_, (pss_cons (ps_for PassesOwn.never rfl (pi_range1 (by rfl) T.n_range (pa_cons (pe_op op_addU (pe_callB call_lenU (by rfl) T.n_len (by decide +kernel) (pa_cons (pv 0) pa_nil)) pe_int) pa_nil)) (pg_name (i := 1) sc_law_places.nd rfl (Or.inl rfl)) (pss_cons (ps_set (i := 2) sc_law_places.nd rfl (Or.inl rfl) (pe_call (ok_law_one T) (hr.mono (by decide)) (by rfl) T.g_law_one T.F_law_one.kp T.b_law_one .nil pass0 (pa_cons (pv 0) (pa_cons (pv 1) pa_nil)))) (pss_str (i := 3) sc_law_places.nd rfl (Or.inl rfl) (psst_cons (CwR.pst_if (pt_cmpR op_lt (pv 1) (pe_callB call_lenU (by rfl) T.n_len (by decide +kernel) (pa_cons (pv 0) pa_nil)) (nomark _)) (psst_cons (Rt.pst_set (i := 3) sc_law_places.nd rfl (Or.inl rfl) (CwR.pet_replC (pe_call (ok_law_begun T) (hr.mono (by decide)) (by rfl) T.g_law_begun T.F_law_begun.kp T.b_law_begun .nil pass0 (pa_cons (pe_ix ix_seq (pv 0) (pv 1) (fun _ _ => rfl)) pa_nil)))) CwR.psst_nil) CwR.psst_nil) (PSsT.of (pss_one (ps_for PassesOwn.never rfl (pi_list (pe_lst (pa_cons pe_str (pa_cons pe_str (pa_cons pe_str pa_nil))))) (pg_name (i := 4) sc_law_places.nd rfl (Or.inl rfl)) (pss_cons (ps_set (i := 5) sc_law_places.nd rfl (Or.inl rfl) (pe_call (ok_law_reader T) hr (by rfl) T.g_law_reader T.F_law_reader.kp T.b_law_reader .nil pass0 (pa_cons (pv 4) (pa_cons (pv 0) (pa_cons (pv 1) pa_nil)))))
        (pss_one (ps_if (pt_cmpR (op_neU hr.units) (pv 3) (pv 4) (nomark _)) (pss_one (ps_if (PW.pt (pw_or (pt_not (pt_val (pe_callB call_isi (by rfl) T.n_isinstance (by decide +kernel) (pa_cons (pv 5) (pa_cons (pe_bltn (v := .ty "list") (by rfl) T.n_list (by decide +kernel) rfl) pa_nil))))) (pw_or (pt_cmpR (op_neU hr.units) (pe_ix ix_seq (pv 5) pe_int (fun _ _ => rfl)) pe_str (nomark _)) (pw_or1 (pt_not (pt_val (pe_call (ok_law_is T) (hr.mono (by decide)) (by rfl) T.g_law_is T.F_law_is.kp T.b_law_is .nil pass0 (pa_cons (pv 1) (pa_cons (pe_ix ix_seq (pv 5) pe_int (fun _ _ => rfl)) pa_nil))))))))) (pss_one (ps_ret pe_bl)) pss_nil)) (pss_one (ps_if (pt_cmpR op_isU (pe_ix ix_seq (pv 2) pe_int (fun _ _ => rfl)) pe_non (nomark _)) (pss_one (ps_if (PW.pt (pw_or (pt_not (pt_val (pe_callB call_isi (by rfl) T.n_isinstance (by decide +kernel) (pa_cons (pv 5) (pa_cons (pe_bltn (v := .ty "list") (by rfl) T.n_list (by decide +kernel) rfl) pa_nil))))) (pw_or (pt_cmpR (op_neU hr.units) (pe_ix ix_seq (pv 5) pe_int (fun _ _ => rfl)) pe_str (nomark _)) (pw_or1 (pt_not (pt_val (pe_call (ok_law_is T) (hr.mono (by decide)) (by rfl) T.g_law_is T.F_law_is.kp T.b_law_is .nil pass0 (pa_cons (pe_ix ix_seq (pv 2) pe_int (fun _ _ => rfl)) (pa_cons (pe_ix ix_seq (pv 5) pe_int (fun _ _ => rfl)) pa_nil))))))))) (pss_one (ps_ret pe_bl)) pss_nil)) (pss_one (ps_if (pt_not (pt_val (pe_call (ok_law_pair T) (hr.mono (by decide)) (by rfl) T.g_law_pair T.F_law_pair.kp T.b_law_pair .nil pass0 (pa_cons (pe_tup (pa_cons (pe_ix ix_seq (pe_ix ix_seq (pv 2) pe_int (fun _ _ => rfl)) pe_int (fun _ _ => rfl)) (pa_cons (pe_ix ix_seq (pv 2) pe_int (fun _ _ => rfl)) pa_nil))) (pa_cons (pv 5) pa_nil))))) (pss_one (ps_ret pe_bl)) pss_nil))))))))))))))
        (pss_one (ps_ret pe_bl))), ?_⟩
    walk_at "rd"
    have zl : z.length ≤ sizeLine := by rw [sizeLine_eq]; omega
    refine r_lenS zl ?_
    walk_at "rd"
    refine l_R (by omega) (by omega) (fun i σ H' => ∃ y1 y2 y3 y4 y5, σ = [some (.str z), y1, y2, y3, y4, y5] ∧ Ex H H') ⟨none, none, none, none, none, rfl, Same.refl _⟩ (fun i σ H' hi hP => ?_) (fun σ H' hP => ?_)
    · obtain ⟨y1, y2, y3, y4, y5, rfl, eH⟩ := hP
      have hiz : i ≤ z.length := by omega
      walk_at "rd"
      refine ⟨z, i, rfl, hiz, hz, fun x H2 e2 hx => ?_⟩
      walk_at "rd"
      refine r_lenS zl ?_
      walk_at "rd"
      refine r_ite (fun h => ?_) (fun h => ?_)
      · obtain ⟨c, hc, hat⟩ := s_at (z := z) (d := i) (by omega)
        have kOff : ∀ n, (n = 0 ∨ n = 2 ∨ n = 3) → rsS (kdS c) ≠ rsS n → fR n z i = .bad i := fun n hn ne => f_off hc hn (fun g => ne (by rw [g]))
        have kOn : ∀ n, (n = 0 ∨ n = 2 ∨ n = 3) → rsS (kdS c) = rsS n → wordR z i = fR n z i := fun n hn eq => f_on hc hn (rs_inj (by have := kd_le c; omega) (by omega) eq)
        walk_at "rd"
        unfold CwR.tReplC
        walk_at "rd"
        refine r_ixS zl hat ?_
        walk_at "rd"
        refine ⟨c, rfl, _, rfl, ?_, ?_⟩
        · have hb := bgn_le c
          have : (rsS (bgn c)).length ≤ 10 := of_decide_eq_true (List.all_eq_true.mp (show ((List.range 7).all fun b => decide ((rsS b).length ≤ 10)) = true by decide +kernel) (bgn c) (List.mem_range.mpr (by omega)))
          rw [show (Str.ofString "number").length = 6 by decide +kernel]
          omega
        rw [kd_rep']
        walk_at "rd"
        refine r_small nsz fun L hL => ?_
        obtain ⟨H4, eH4, x4, g4⟩ := new1 hL (.lst [.str "name", .str "number", .str "text"])
        rw [← eH4]
        refine l_L (sqL g4) (fun m σ H5 => ∃ y4 y5, σ = [some (.str z), some (.int (i : Nat)), some x, some (.str (rsS (kdS c))), y4, y5] ∧ Ex H4 H5) ⟨_, _, rfl, Same.refl _⟩ (fun m σ H5 h => ?_) (fun m u σ H5 hu hP => ?_) (fun σ H5 hP => ?_)
        · obtain ⟨_, _, _, e⟩ := h
          exact sqL (e _ _ g4)
        · obtain ⟨y4, y5, rfl, e5⟩ := hP
          obtain ⟨n, hn, rfl⟩ : ∃ n, (n = 0 ∨ n = 2 ∨ n = 3) ∧ u = V.str (rsS n) := by
            have hm := List.mem_of_getElem? hu
            simp only [List.mem_cons, List.not_mem_nil, or_false] at hm
            rcases hm with rfl | rfl | rfl
            · exact ⟨0, .inl rfl, rfl⟩
            · exact ⟨2, .inr (.inl rfl), rfl⟩
            · exact ⟨3, .inr (.inr rfl), rfl⟩
          have hx5 := t1_up hx (Tk.ex (x4.trans e5))
          walk_at "rd"
          refine ⟨n, z, i, rfl, hn, hiz, hz, fun t v e hr x2 H6 e6 ⟨p2, ex, gp2⟩ => ?_, fun p hp a H6 e6 ga => ?_⟩
          · subst ex
            have hx6 := t1_up hx5 (Tk.ex e6)
            walk_at "rd"
            refine r_iteN (fun ne => ?_) (fun eq => ?_)
            · rw [kOff n hn (fun g => ne (by rw [g]))] at hr
              cases hr
            · rw [kOn n hn (V.str.inj eq), hr] at hx6
              obtain ⟨a, u, rfl, ga, qu, rfl, gu⟩ := hx6
              have sc := word_sc ((kOn n hn (V.str.inj eq)).trans hr)
              walk_at "rd"
              refine r_ixT (sqT ga) (atI_nat (j := 0) rfl) ?_
              walk_at "rd"
              refine r_ixT (sqT ga) (atI_nat (j := 0) rfl) ?_
              walk_at "rd"
              refine r_ixT (sqT gu) (atI_nat (j := 1) rfl) ?_
              walk_at "rd"
              refine r_ixT (sqT ga) (atI_nat (j := 1) rfl) ?_
              walk_at "rd"
              refine r_small nsz fun b hb => ?_
              have x7 := Same.new (o := HO.tup [v, .int (e : Nat)]) (Same.refl H6) hb
              walk_at "rd"
              refine ⟨.non, .non, v, _, b, p2, rfl, upd_same, x7 _ _ gp2, sc, .inr ⟨_, rfl⟩, ?_⟩
              walk_at "rd"
              exact ⟨_, _, rfl, e5.trans (e6.trans x7)⟩
          · have hx6 := t1_up hx5 (Tk.ex e6)
            walk_at "rd"
            refine r_iteN (fun ne => ?_) (fun eq => ?_)
            · rw [kOff n hn (fun g => ne (by rw [g]))] at hp
              cases hp
              walk_at "rd"
              refine r_isi (b := true) (.base (.lst ga)) (by decide +kernel) ?_
              walk_at "rd"
              refine r_ixL (sqL ga) (atI_nat (j := 0) rfl) ?_
              walk_at "rd"
              refine r_ixL (sqL ga) (atI_nat (j := 1) rfl) ?_
              walk_at "rd"
              refine ⟨_, rfl, .inr ⟨_, rfl⟩, ?_⟩
              walk_at "rd"
              exact ⟨_, _, rfl, e5.trans e6⟩
            · rw [kOn n hn (V.str.inj eq), hp] at hx6
              obtain ⟨b, rfl, gb⟩ := hx6
              walk_at "rd"
              refine r_ixT (sqT gb) (atI_nat (j := 0) rfl) ?_
              walk_at "rd"
              refine r_isi (b := true) (.base (.lst ga)) (by decide +kernel) ?_
              walk_at "rd"
              refine r_ixL (sqL ga) (atI_nat (j := 0) rfl) ?_
              walk_at "rd"
              refine r_ixT (sqT gb) (atI_nat (j := 1) rfl) ?_
              walk_at "rd"
              refine r_ixL (sqL ga) (atI_nat (j := 1) rfl) ?_
              walk_at "rd"
              refine ⟨_, rfl, .inr ⟨_, rfl⟩, ?_⟩
              walk_at "rd"
              exact ⟨_, _, rfl, e5.trans e6⟩
        · obtain ⟨y4, y5, rfl, e5⟩ := hP
          exact ⟨_, _, _, _, _, rfl, eH.trans (e2.trans (x4.trans e5))⟩
      · have kOff : ∀ n, (n = 0 ∨ n = 2 ∨ n = 3) → Str.ofString "" ≠ rsS n → fR n z i = .bad i := fun n hn _ => f_none (none_at (by omega))
        have kOn : ∀ n, (n = 0 ∨ n = 2 ∨ n = 3) → Str.ofString "" = rsS n → wordR z i = fR n z i := fun n hn eq => by
          exfalso
          rcases hn with rfl | rfl | rfl <;> (revert eq; decide +kernel)
        walk_at "rd"
        refine r_small nsz fun L hL => ?_
        obtain ⟨H4, eH4, x4, g4⟩ := new1 hL (.lst [.str "name", .str "number", .str "text"])
        rw [← eH4]
        refine l_L (sqL g4) (fun m σ H5 => ∃ y4 y5, σ = [some (.str z), some (.int (i : Nat)), some x, some (.str (Str.ofString "")), y4, y5] ∧ Ex H4 H5) ⟨_, _, rfl, Same.refl _⟩ (fun m σ H5 h => ?_) (fun m u σ H5 hu hP => ?_) (fun σ H5 hP => ?_)
        · obtain ⟨_, _, _, e⟩ := h
          exact sqL (e _ _ g4)
        · obtain ⟨y4, y5, rfl, e5⟩ := hP
          obtain ⟨n, hn, rfl⟩ : ∃ n, (n = 0 ∨ n = 2 ∨ n = 3) ∧ u = V.str (rsS n) := by
            have hm := List.mem_of_getElem? hu
            simp only [List.mem_cons, List.not_mem_nil, or_false] at hm
            rcases hm with rfl | rfl | rfl
            · exact ⟨0, .inl rfl, rfl⟩
            · exact ⟨2, .inr (.inl rfl), rfl⟩
            · exact ⟨3, .inr (.inr rfl), rfl⟩
          have hx5 := t1_up hx (Tk.ex (x4.trans e5))
          walk_at "rd"
          refine ⟨n, z, i, rfl, hn, hiz, hz, fun t v e hr x2 H6 e6 ⟨p2, ex, gp2⟩ => ?_, fun p hp a H6 e6 ga => ?_⟩
          · subst ex
            have hx6 := t1_up hx5 (Tk.ex e6)
            walk_at "rd"
            refine r_iteN (fun ne => ?_) (fun eq => ?_)
            · rw [kOff n hn (fun g => ne (by rw [g]))] at hr
              cases hr
            · rw [kOn n hn (V.str.inj eq), hr] at hx6
              obtain ⟨a, u, rfl, ga, qu, rfl, gu⟩ := hx6
              have sc := word_sc ((kOn n hn (V.str.inj eq)).trans hr)
              walk_at "rd"
              refine r_ixT (sqT ga) (atI_nat (j := 0) rfl) ?_
              walk_at "rd"
              refine r_ixT (sqT ga) (atI_nat (j := 0) rfl) ?_
              walk_at "rd"
              refine r_ixT (sqT gu) (atI_nat (j := 1) rfl) ?_
              walk_at "rd"
              refine r_ixT (sqT ga) (atI_nat (j := 1) rfl) ?_
              walk_at "rd"
              refine r_small nsz fun b hb => ?_
              have x7 := Same.new (o := HO.tup [v, .int (e : Nat)]) (Same.refl H6) hb
              walk_at "rd"
              refine ⟨.non, .non, v, _, b, p2, rfl, upd_same, x7 _ _ gp2, sc, .inr ⟨_, rfl⟩, ?_⟩
              walk_at "rd"
              exact ⟨_, _, rfl, e5.trans (e6.trans x7)⟩
          · have hx6 := t1_up hx5 (Tk.ex e6)
            walk_at "rd"
            refine r_iteN (fun ne => ?_) (fun eq => ?_)
            · rw [kOff n hn (fun g => ne (by rw [g]))] at hp
              cases hp
              walk_at "rd"
              refine r_isi (b := true) (.base (.lst ga)) (by decide +kernel) ?_
              walk_at "rd"
              refine r_ixL (sqL ga) (atI_nat (j := 0) rfl) ?_
              walk_at "rd"
              refine r_ixL (sqL ga) (atI_nat (j := 1) rfl) ?_
              walk_at "rd"
              refine ⟨_, rfl, .inr ⟨_, rfl⟩, ?_⟩
              walk_at "rd"
              exact ⟨_, _, rfl, e5.trans e6⟩
            · rw [kOn n hn (V.str.inj eq), hp] at hx6
              obtain ⟨b, rfl, gb⟩ := hx6
              walk_at "rd"
              refine r_ixT (sqT gb) (atI_nat (j := 0) rfl) ?_
              walk_at "rd"
              refine r_isi (b := true) (.base (.lst ga)) (by decide +kernel) ?_
              walk_at "rd"
              refine r_ixL (sqL ga) (atI_nat (j := 0) rfl) ?_
              walk_at "rd"
              refine r_ixT (sqT gb) (atI_nat (j := 1) rfl) ?_
              walk_at "rd"
              refine r_ixL (sqL ga) (atI_nat (j := 1) rfl) ?_
              walk_at "rd"
              refine ⟨_, rfl, .inr ⟨_, rfl⟩, ?_⟩
              walk_at "rd"
              exact ⟨_, _, rfl, e5.trans e6⟩
        · obtain ⟨y4, y5, rfl, e5⟩ := hP
          exact ⟨_, _, _, _, _, rfl, eH.trans (e2.trans (x4.trans e5))⟩
    · obtain ⟨y1, y2, y3, y4, y5, rfl, eH⟩ := hP
      walk_at "rd"
      exact q H' eH
theorem ok_law_quotes (T : Txt K mg) : FnOk P w K mg base CX0 6 T.a_law_quotes T.d_law_quotes ["_law_text_here", "_law_ahead", "_law_behind"] spQuotes := by
  refine T.F_law_quotes.ok sc_law_quotes (fun vs H Q E h => ?_) (fun cdv A outer s H vs Q E hr h => ?_)
  · obtain ⟨t, a, b, rfl, _⟩ := h
    rfl
  · obtain ⟨t, a, b, rfl, ht, ha, hb, q⟩ := h
    refine ⟨_, (pss_cons (ps_set (i := 3) sc_law_quotes.nd rfl (Or.inl rfl) (pe_call (ok_quote T) (hr.mono (by decide)) (by rfl) T.g_quote T.F_quote.kp T.b_quote .nil pass0 (pa_cons (pv 0) pa_nil)))
        (pss_cons (ps_if (pt_not (pt_val (pe_call (ok_law_is T) (hr.mono (by decide)) (by rfl) T.g_law_is T.F_law_is.kp T.b_law_is .nil pass0 (pa_cons (pe_call (ok_law_quoted T) (hr.mono (by decide)) (by rfl) T.g_law_quoted T.F_law_quoted.kp T.b_law_quoted .nil pass0 (pa_cons (pv 0) pa_nil)) (pa_cons (pv 3) pa_nil))))) (pss_one (ps_ret pe_bl)) pss_nil)
        (pss_cons (ps_set (i := 4) sc_law_quotes.nd rfl (Or.inl rfl) (pe_op op_addU (pe_op op_addU (pv 1) (pv 3)) (pv 2)))
        (pss_one (ps_ret (pe_call (ok_law_pair T) (hr.mono (by decide)) (by rfl) T.g_law_pair T.F_law_pair.kp T.b_law_pair .nil pass0 (pa_cons (pe_tup (pa_cons (pv 0) (pa_cons (pe_op op_addU (pe_callB call_lenU (by rfl) T.n_len (by decide +kernel) (pa_cons (pv 1) pa_nil)) (pe_callB call_lenU (by rfl) T.n_len (by decide +kernel) (pa_cons (pv 3) pa_nil))) pa_nil))) (pa_cons (pe_call (ok_unquote T) hr (by rfl) T.g_unquote T.F_unquote.kp T.b_unquote .nil passL (pa_cons (pv 4) (pa_cons (pe_callB call_lenU (by rfl) T.n_len (by decide +kernel) (pa_cons (pv 1) pa_nil)) pa_nil))) pa_nil)))))))), ?_⟩
    have el := esc_le t
    have qlen := quote_len t
    walk_at "rd"
    refine ⟨t, rfl, by omega, ?_⟩
    walk_at "rd"
    refine ⟨t, rfl, by omega, ?_⟩
    walk_at "rd"
    refine ⟨_, rfl, .inl ⟨_, rfl⟩, ?_⟩
    walk_at "rd"
    refine r_addS (by rw [sizeLine_eq]; omega) ?_
    walk_at "rd"
    refine r_addS (by rw [app_len, sizeLine_eq]; omega) ?_
    walk_at "rd"
    refine r_lenS (by rw [sizeLine_eq]; omega) ?_
    walk_at "rd"
    refine r_lenS (by rw [sizeLine_eq]; omega) ?_
    walk_at "rd"
    refine r_small nsz fun p hp => ?_
    obtain ⟨H1, eH1, x1, g1⟩ := new1 hp (.tup [.str t, .int (((a.length : Nat) : Int) + ((quoteQ t).length : Nat))])
    rw [← eH1]
    walk_at "rd"
    refine r_lenS (by rw [sizeLine_eq]; omega) ?_
    walk_at "rd"
    refine ⟨_, a.length, rfl, by rw [app_len, app_len]; omega, by rw [app_len, app_len]; omega, fun t' v e hr x H2 e2 ⟨p2, ex, gp2⟩ => ?_, fun p hp => ?_⟩
    · subst ex
      rw [text_quoted] at hr
      cases hr
      walk_at "rd"
      refine ⟨.non, .non, .str t, _, p, p2, rfl, e2 _ _ g1, by rw [gp2]; rfl, .inl ⟨_, rfl⟩, .inr ⟨_, rfl⟩, ?_⟩
      exact q H2 (x1.trans e2)
    · rw [text_quoted] at hp
      cases hp
end
end K18

/-! drawn words are read back, without code -/
namespace Q18
open PySem PySem.Spec PyProof.Rows L2 Dk
def GoodW (t : Str) (v : V) (w : Str) : Prop := 0 < w.length ∧ w.length ≤ 20 ∧ Sc v ∧ ∀ (z : Str) (k : Nat) (tail : List Nat), (cs z).drop k = cs w ++ tail → (tail = [] ∨ tail.head? = some 32) → wordR z k = .ok t v (k + w.length)
section
variable {z w : Str} {k : Nat} {tail : List Nat}
theorem gw_le (h : (cs z).drop k = cs w ++ tail) (h0 : 0 < w.length) : k + w.length + tail.length = z.length := by
  have := congrArg List.length h
  rw [List.length_drop, List.length_append, cs_len, cs_len] at this
  omega
theorem gw_at (h : (cs z).drop k = cs w ++ tail) {i : Nat} (hi : i < w.length) : (cs z)[k + i]? = (cs w)[i]? := by
  rw [← List.getElem?_drop, h, List.getElem?_append_left (by rw [cs_len]; exact hi)]
theorem gw_off (h : (cs z).drop k = cs w ++ tail) : (cs z)[k + w.length]? = tail.head? := by
  rw [← List.getElem?_drop, h, List.getElem?_append_right (by rw [cs_len]; exact Nat.le_refl _), cs_len, Nat.sub_self, List.head?_eq_getElem?]
theorem gw_cut (h : (cs z).drop k = cs w ++ tail) : cut z k (k + w.length) = w := by
  refine cs_ext ?_
  rw [cut_seg]
  unfold seg
  rw [h, Nat.add_sub_cancel_left, ← cs_len, List.take_left]
theorem gw_end (ht : tail = [] ∨ tail.head? = some 32) {c : Nat} (h : tail.head? = some c) : c = 32 := by
  rcases ht with e | e
  · rw [e] at h; cases h
  · rw [e] at h; cases h; rfl
theorem gw_in (h : (cs z).drop k = cs w ++ tail) {f : Nat → Bool} {c0 : Nat} {r : List Nat} (hw : cs w = c0 :: r) (hr : ∀ c ∈ r, f c = true) : ∀ i c, k + 1 ≤ i → i < k + w.length → (cs z)[i]? = some c → f c = true := by
  intro i c h1 h2 hc
  have e := gw_at h (i := i - k) (by omega)
  rw [show k + (i - k) = i by omega, hc, hw, show i - k = (i - k - 1) + 1 by omega, List.getElem?_cons_succ] at e
  exact hr c (List.mem_of_getElem? e.symm)
theorem gw_first (h : (cs z).drop k = cs w ++ tail) {c0 : Nat} {r : List Nat} (hw : cs w = c0 :: r) : (cs z)[k]? = some c0 := by
  have h0 : 0 < w.length := by rw [← cs_len, hw, List.length_cons]; omega
  have e := gw_at h (i := 0) h0
  rw [Nat.add_zero, hw] at e
  exact e
end
theorem len_cons {w : Str} {c0 : Nat} {r : List Nat} (hw : cs w = c0 :: r) : w.length = r.length + 1 := by rw [← cs_len, hw, List.length_cons]
theorem good_name {w : Str} {c0 : Nat} {r : List Nat} (hw : cs w = c0 :: r) (hs : smc c0 = true) (hr : ∀ c ∈ r, nmc c = true) (hl : w.length ≤ 12) : GoodW tagN (.str w) w := by
  have lw := len_cons hw
  refine ⟨by omega, by omega, .inl ⟨_, rfl⟩, fun z k tail h ht => ?_⟩
  have hf := gw_first h hw
  have le := gw_le h (by omega)
  have hb : bgn c0 = 0 := by
    have g := hs
    unfold smc at g
    rw [Bool.and_eq_true, decide_eq_true_iff, decide_eq_true_iff] at g
    unfold bgn
    rw [if_neg (by omega), if_pos hs]
  have := name_end (j := k + w.length) hf hb hs (by omega) (by omega) (gw_in h hw hr) (by omega) (fun c hc => by
    rw [gw_off h] at hc
    rw [gw_end ht hc]
    decide)
  rw [this, gw_cut h]
  rfl
theorem good_num {w : Str} {c0 : Nat} {r : List Nat} (hw : cs w = c0 :: r) (hs : dgc c0 = true) (h0 : c0 ≠ 48) (hr : ∀ c ∈ r, dgc c = true) (hl : w.length ≤ 9) : GoodW tagD (.int (nv w)) w := by
  have lw := len_cons hw
  refine ⟨by omega, by omega, .inr ⟨_, rfl⟩, fun z k tail h ht => ?_⟩
  have hf := gw_first h hw
  have le := gw_le h (by omega)
  have hb : bgn c0 = 2 := by
    have g := hs
    unfold dgc at g
    rw [Bool.and_eq_true, decide_eq_true_iff, decide_eq_true_iff] at g
    have ns : ¬ smc c0 = true := by
      unfold smc
      rw [Bool.and_eq_true, decide_eq_true_iff, decide_eq_true_iff]
      omega
    unfold bgn
    rw [if_neg (by omega), if_neg ns, if_neg h0, if_pos hs]
  have := num_end (j := k + w.length) hf hb hs h0 (by omega) (by omega) (gw_in h hw hr) (by omega) (fun _ c hc => by
    rw [gw_off h] at hc
    rw [gw_end ht hc]
    decide)
  rw [this.1, gw_cut h]
  rfl
theorem good_zero : GoodW tagD (.int (nv ⟨#[48]⟩)) ⟨#[48]⟩ := by
  refine ⟨by decide, by decide, .inr ⟨_, rfl⟩, fun z k tail h ht => ?_⟩
  have hf := gw_first (w := ⟨#[48]⟩) h (c0 := 48) (r := []) rfl
  have := (nought_end hf (by decide) rfl).1
  rw [this]
  have e := gw_cut h
  rw [show k + (⟨#[48]⟩ : Str).length = k + 1 from rfl] at e ⊢
  rw [e]
  rfl
theorem good_sign {c : Nat} (hb : bgn c = 5) : GoodW tagS (.str ⟨#[c]⟩) ⟨#[c]⟩ := by
  refine ⟨by show 0 < 1; decide, by show 1 ≤ 20; decide, .inl ⟨_, rfl⟩, fun z k tail h ht => ?_⟩
  have hf := gw_first (w := ⟨#[c]⟩) h (c0 := c) (r := []) rfl
  rw [word_bgn hf, hb, if_neg (by decide), if_neg (by decide), if_neg (by decide), if_neg (by decide)]
  rfl
theorem good_text {t : Str} (ht : t.length ≤ 9) : GoodW tagT (.str t) (quoteQ t) := by
  have ql := quote_len t
  have el := esc_le t
  refine ⟨by omega, by omega, .inl ⟨_, rfl⟩, fun z k tail h _ => ?_⟩
  have hq : cs (quoteQ t) = 34 :: ((cs t).flatMap qs ++ [34]) := by
    unfold quoteQ
    rw [cs_app, cs_app, esc_cs]
    rfl
  have hf := gw_first h hq
  have hb : bgn 34 = 3 := by decide
  rw [word_bgn hf, hb, if_neg (by decide), if_neg (by decide), if_neg (by decide), if_pos rfl]
  unfold textR
  rw [hf]
  dsimp only
  have hd : (cs z).drop (k + 1) = (cs t).flatMap qs ++ 34 :: tail := by
    rw [← List.drop_drop, h, hq]
    show ((cs t).flatMap qs ++ [34]) ++ tail = _
    rw [List.append_assoc]
    rfl
  rw [if_pos rfl, hd, scan_esc]
  show Res.ok tagT (.str ⟨(cs t).toArray⟩) _ = _
  rw [show (⟨(cs t).toArray⟩ : Str) = t from cs_ext rfl, ql, ← cs_len (escQ t), esc_cs]
  congr 1
  omega
abbrev W3 := Str × V × Str
def Good3 (l : List W3) : Prop := ∀ x ∈ l, GoodW x.1 x.2.1 x.2.2
theorem reads_join {z : Str} : ∀ (l : List W3) (k : Nat) (acc : List Wd), l ≠ [] → Good3 l → k ≤ z.length → (cs z).drop k = cs (Str.join ⟨#[32]⟩ (l.map fun x => x.2.2)) → Reads z k acc (.words (acc ++ l.map fun x => (x.1, x.2.1)))
  | [x], k, acc, _, hg, hk, hd => by
    have g := hg x (List.mem_cons_self ..)
    have hd' : (cs z).drop k = cs x.2.2 ++ [] := by rw [hd, List.append_nil]; rfl
    have hw := g.2.2.2 z k [] hd' (.inl rfl)
    have le := gw_le hd' g.1
    rw [List.length_nil, Nat.add_zero] at le
    rw [le] at hw
    exact .last hw
  | x :: y :: l, k, acc, _, hg, hk, hd => by
    have g := hg x (List.mem_cons_self ..)
    have hd' : (cs z).drop k = cs x.2.2 ++ 32 :: cs (Str.join ⟨#[32]⟩ ((y :: l).map fun x => x.2.2)) := by
      rw [hd]
      show cs (x.2.2 ++ ⟨#[32]⟩ ++ Str.join ⟨#[32]⟩ ((y :: l).map fun x => x.2.2)) = _
      rw [cs_app, cs_app, List.append_assoc]
      rfl
    have hw := g.2.2.2 z k _ hd' (.inr rfl)
    have le := gw_le hd' g.1
    rw [List.length_cons] at le
    have hoff := gw_off hd'
    have hnext : (cs z).drop (k + x.2.2.length + 1) = cs (Str.join ⟨#[32]⟩ ((y :: l).map fun x => x.2.2)) := by
      rw [show k + x.2.2.length + 1 = k + (x.2.2.length + 1) by omega, ← List.drop_drop, hd', ← cs_len x.2.2, ← List.drop_drop, List.drop_left]
      rfl
    have ih := reads_join (y :: l) (k + x.2.2.length + 1) (acc ++ [(x.1, x.2.1)]) (by simp) (fun q hq => hg q (List.mem_cons_of_mem _ hq)) (by omega) hnext
    refine .more hw hoff ?_
    rw [List.append_assoc] at ih
    exact ih
theorem line_join (l : List W3) (hg : Good3 l) : Line (Str.join ⟨#[32]⟩ (l.map fun x => x.2.2)) (.words (l.map fun x => (x.1, x.2.1))) := by
  cases l with
  | nil => exact .inl ⟨rfl, rfl⟩
  | cons x l =>
    have g := hg x (List.mem_cons_self ..)
    have h := reads_join (z := Str.join ⟨#[32]⟩ ((x :: l).map fun x => x.2.2)) (x :: l) 0 [] (by simp) hg (Nat.zero_le _) rfl
    refine .inr ⟨?_, h⟩
    have h0 := g.1
    cases l with
    | nil => exact h0
    | cons y l =>
      show 0 < (x.2.2 ++ ⟨#[32]⟩ ++ Str.join ⟨#[32]⟩ ((y :: l).map fun x => x.2.2)).length
      rw [app_len, app_len]
      omega
end Q18

namespace K18
open PySem PySem.Spec PyProof.Rows L2 Dk Q18
/-- one step of a reading -/
local macro_rules | `(tactic| walk_at "rd1") => `(tactic| first
  | ((with_reducible refine r_var (v := ?rv) ?rh ?_); (case rh => rfl))
  | with_reducible refine r_c ?_
  | with_reducible refine r_seq ?_
  | with_reducible refine r_asg ?_
  | with_reducible refine r_par ?_
  | with_reducible refine r_gname ?_
  | with_reducible refine r_op ?_
  | with_reducible refine r_forLo ?_
  | with_reducible refine r_forTo ?_
  | with_reducible refine r_forSo ?_
  | with_reducible refine r_forRo ?_
  | with_reducible refine r_forRvo ?_
  | with_reducible refine r_forZo ?_
  | with_reducible refine r_revS ?_
  | with_reducible refine r_lcRo ?_
  | with_reducible refine r_lcLo ?_
  | with_reducible refine r_yes ?_
  | with_reducible refine r_callK0 ?_
  | with_reducible refine r_break ?_
  | with_reducible refine r_continue ?_
  | with_reducible refine r_forR2o ?_
  | with_reducible refine r_forEo ?_
  | with_reducible refine r_forESo ?_
  | with_reducible refine r_xfo ?_
  | with_reducible refine r_noP ?_
  | with_reducible refine r_part ?_
  | with_reducible refine r_pI ?_
  | with_reducible refine r_gcons ?_
  | with_reducible refine r_gnil ?_
  | with_reducible refine r_mkO ?_
  | with_reducible refine r_un ?_
  | with_reducible refine r_addI ?_
  | with_reducible refine r_I0 ?_
  | with_reducible refine r_U ?_
  | with_reducible refine r_cons ?_
  | with_reducible refine r_nil ?_
  | with_reducible refine r_CB ?_
  | with_reducible refine r_call ?_
  | with_reducible refine r_callS ?_
  | with_reducible refine r_int ?_
  | with_reducible refine r_max ?_
  | with_reducible refine r_min ?_
  | with_reducible refine r_test ?_
  | with_reducible refine r_B ?_
  | with_reducible refine r_blv ?_
  | with_reducible refine r_and ?_
  | with_reducible refine r_or ?_
  | with_reducible refine r_not ?_
  | with_reducible refine r_andV ?_
  | with_reducible refine r_orV ?_
  | with_reducible refine r_notV ?_
  | with_reducible refine r_ifE ?_
  | with_reducible refine r_ifS ?_
  | with_reducible refine r_ret ?_
  | with_reducible refine r_retN ?_
  | with_reducible refine r_drop ?_
  | with_reducible refine r_next ?_
  | with_reducible refine r_sl ?_
  | with_reducible refine r_gsub ?_
  | with_reducible refine r_bm ?_
  | with_reducible refine r_bm0 ?_
  | with_reducible refine r_tup ?_
  | with_reducible refine r_lst ?_
  | with_reducible refine r_isN ?_
  | with_reducible refine r_notN ?_
  | with_reducible refine r_chain ?_
  | with_reducible refine r_callK ?_
  | with_reducible refine r_isB ?_
  | with_reducible refine r_lcEio ?_
  | with_reducible refine r_forEi ?_
  | with_reducible refine r_lcTo ?_
  | with_reducible refine r_lcSo ?_
  | with_reducible refine r_m1 ?_
  | with_reducible refine r_dget ?_
  | with_reducible refine r_din ?_
  | with_reducible refine r_dnotin ?_
  | with_reducible refine r_starC ?_
  | with_reducible refine r_callKS ?_
  | with_reducible refine r_itt ?_
  | with_reducible refine r_iff ?_
  | with_reducible refine r_ittN ?_
  | with_reducible refine r_iffN ?_
  | ((with_reducible refine r_ittD ?rh ?_); (case rh => rfl))
  | ((with_reducible refine r_iffD ?rh ?_); (case rh => rfl))
  | ((with_reducible refine r_modP ?rh ?_); (case rh => decide))
  | ((with_reducible refine r_eq ?rh ?_); (case rh => rfl))
  | ((with_reducible refine r_eqP ?rh ?_); (case rh => rfl))
  | ((with_reducible refine r_ne ?rh ?_); (case rh => rfl)))
local macro_rules | `(tactic| walk_at "rd") => `(tactic| repeat walk_at "rd1")
local macro_rules | `(tactic| walk_at "isi") => `(tactic| first | refine r_isi (b := true) (by assumption) (by decide +kernel) ?_ | refine r_isi (b := false) (by assumption) (by decide +kernel) ?_)
local macro_rules | `(tactic| walk_at "rs1") => `(tactic| first
  | with_reducible refine r_seq ?_
  | with_reducible refine r_asg ?_
  | with_reducible refine r_gname ?_
  | with_reducible refine r_ret ?_)
local macro_rules | `(tactic| walk_at "rs") => `(tactic| repeat walk_at "rs1")

def spDrawn : Sp := fun vs H Q _ => ∃ a : Addr, vs = [.ref a] ∧ Stt H a ∧ ∀ p q t v w H', Drw (cell a) H H' → GoodW t v w → H' p = some (.tup [.ref q, .str w]) → H' q = some (.tup [.str t, v]) → Q (.ref p) H'
theorem na_tup {a p : Addr} {xs : List V} {H : Hp} (h : Stt H a) (g : H p = some (.tup xs)) : ¬ (cell a).A p := fun e => by
  obtain ⟨z, q, _⟩ := h
  rw [show p = a from e, q] at g
  cases g
def KN : Str := "abcdefghijklmnopqrstuvwxyz0123456789"
def SO : Str := "!#$&'()*+,-./:;<=>?@ABYZ[\\]^_`{|}~"
theorem KN_cs : ∀ c ∈ cs KN, nmc c = true := by decide +kernel
theorem SM_cs : ∀ c ∈ cs SM, smc c = true := by decide +kernel
theorem SO_cs : ∀ c ∈ cs SO, bgn c = 5 := by decide +kernel
theorem s_in {z : Str} {d : Nat} (h : d < z.length) : ∃ c, c ∈ cs z ∧ atI z.cps.toList (d : Nat) = some c := by
  obtain ⟨c, h1, h2⟩ := s_at h
  exact ⟨c, List.mem_of_getElem? h1, h2⟩
theorem num_at {ms : List Nat} {d : Nat} (h : d < ms.length) : ∃ m ∈ ms, (ms.map fun (m : Nat) => V.int (m : Nat))[d]? = some (.int (m : Nat)) := ⟨ms[d], List.getElem_mem h, by rw [List.getElem?_map, List.getElem?_eq_getElem h]; rfl⟩
theorem cut1 (c : Nat) (o : Str) : cs (⟨#[c]⟩ ++ o) = c :: cs o := by rw [cs_app]; rfl
section
variable {P : Program} {w : World} {K : PySem.W.Frag} {mg : Str → Option Value} {base : Heap}
theorem ok_law_word (T : Txt K mg) : FnOk P w K mg base CX0 4 T.a_law_word T.d_law_word ["_law_state"] spDrawn := by
  refine T.F_law_word.ok sc_law_word (fun vs H Q E h => ?_) (fun cdv A outer s H vs Q E hr h => ?_)
  · obtain ⟨a, rfl, _⟩ := h
    rfl
  · obtain ⟨a, rfl, hs, q⟩ := h
    refine ⟨_, (pss_cons (ps_set (i := 1) sc_law_word.nd rfl (Or.inl rfl) (pe_call (ok_law_draw T) (hr.mono (by decide)) (by rfl) T.g_law_draw T.F_law_draw.kp T.b_law_draw .nil pass0 (pa_cons (pv 0) (pa_cons pe_int pa_nil))))
        (pss_cons (ps_if (PW.pt (pw_or (pt_cmpR (op_eqU hr.units) (pv 1) pe_int (nomark _)) (pw_or1 (PW.pt (pw_and (pt_cmpR (op_eqU hr.units) (pv 1) pe_int (nomark _)) (pw_and1 (pt_cmpR (op_eqU hr.units) (pe_call (ok_law_draw T) (hr.mono (by decide)) (by rfl) T.g_law_draw T.F_law_draw.kp T.b_law_draw .nil pass0 (pa_cons (pv 0) (pa_cons pe_int pa_nil))) pe_int (nomark _)))))))) (pss_cons (ps_set (i := 2) sc_law_word.nd rfl (Or.inr rfl) (pe_op op_addU (pe_call0 (ok_law_small T) (hr.mono (by decide)) (by rfl) T.g_law_small T.F_law_small.kp T.b_law_small .nil pass0) pe_str))
        (pss_cons (ps_set (i := 3) sc_law_word.nd rfl (Or.inl rfl) (pe_ix ix_seq (pe_lst (pa_cons pe_int (pa_cons pe_int (pa_cons pe_int (pa_cons pe_int (pa_cons pe_int (pa_cons pe_int pa_nil))))))) (pe_call (ok_law_draw T) (hr.mono (by decide)) (by rfl) T.g_law_draw T.F_law_draw.kp T.b_law_draw .nil pass0 (pa_cons (pv 0) (pa_cons pe_int pa_nil))) (fun _ _ => rfl)))
        (pss_cons (ps_set (i := 4) sc_law_word.nd rfl (Or.inl rfl) (pe_op op_addU (pe_ix ix_seq (pe_call0 (ok_law_small T) (hr.mono (by decide)) (by rfl) T.g_law_small T.F_law_small.kp T.b_law_small .nil pass0) (pe_call (ok_law_draw T) (hr.mono (by decide)) (by rfl) T.g_law_draw T.F_law_draw.kp T.b_law_draw .nil pass0 (pa_cons (pv 0) (pa_cons pe_int pa_nil))) (fun _ _ => rfl)) (pe_join pe_str (pe_lc (own := [("_law_k", 9)]) (g := gName 9) rfl sc_law_word.nd (pi_range1 (by rfl) T.n_range (pa_cons (pv 3) pa_nil)) (blkOk_by (N := N_law_word) (sc := defScope s_law_word) (by decide +kernel)) (fun _ _ _ _ _ => pg_name (i := 9) sc_law_word.nd rfl (Or.inl rfl)) (fun _ _ _ _ _ => pts_nil) (fun _ _ _ _ _ => (pe_ix (k_ix (K := K) rfl) (pv 2) (pe_call (ok_law_draw T) (hr.mono (by decide)) (by rfl) T.g_law_draw T.F_law_draw.kp T.b_law_draw .nil pass0 (pa_cons (pv 0) (pa_cons pe_int pa_nil))) (fun _ _ => rfl)))))))
        (pss_one (ps_ret (pe_tup (pa_cons (pe_tup (pa_cons pe_str (pa_cons (pv 4) pa_nil))) (pa_cons (pv 4) pa_nil)))))))) pss_nil)
        (pss_cons (ps_if (pt_cmpR (op_eqU hr.units) (pv 1) pe_int (nomark _)) (pss_cons (ps_set (i := 3) sc_law_word.nd rfl (Or.inl rfl) (pe_ix ix_seq (pe_lst (pa_cons pe_int (pa_cons pe_int (pa_cons pe_int (pa_cons pe_int (pa_cons pe_int (pa_cons pe_int pa_nil))))))) (pe_call (ok_law_draw T) (hr.mono (by decide)) (by rfl) T.g_law_draw T.F_law_draw.kp T.b_law_draw .nil pass0 (pa_cons (pv 0) (pa_cons pe_int pa_nil))) (fun _ _ => rfl)))
        (pss_cons (ps_set (i := 5) sc_law_word.nd rfl (Or.inl rfl) (pe_op op_addU (pe_ix ix_seq pe_str (pe_call (ok_law_draw T) (hr.mono (by decide)) (by rfl) T.g_law_draw T.F_law_draw.kp T.b_law_draw .nil pass0 (pa_cons (pv 0) (pa_cons pe_int pa_nil))) (fun _ _ => rfl)) (pe_join pe_str (pe_lc (own := [("_law_k", 9)]) (g := gName 9) rfl sc_law_word.nd (pi_range1 (by rfl) T.n_range (pa_cons (pv 3) pa_nil)) (blkOk_by (N := N_law_word) (sc := defScope s_law_word) (by decide +kernel)) (fun _ _ _ _ _ => pg_name (i := 9) sc_law_word.nd rfl (Or.inl rfl)) (fun _ _ _ _ _ => pts_nil) (fun _ _ _ _ _ => (pe_ix (k_ix (K := K) rfl) pe_str (pe_call (ok_law_draw T) (hr.mono (by decide)) (by rfl) T.g_law_draw T.F_law_draw.kp T.b_law_draw .nil pass0 (pa_cons (pv 0) (pa_cons pe_int pa_nil))) (fun _ _ => rfl)))))))
        (pss_cons (ps_if (pt_cmpR (op_eqU hr.units) (pe_call (ok_law_draw T) (hr.mono (by decide)) (by rfl) T.g_law_draw T.F_law_draw.kp T.b_law_draw .nil pass0 (pa_cons (pv 0) (pa_cons pe_int pa_nil))) pe_int (nomark _)) (pss_one (ps_set (i := 5) sc_law_word.nd rfl (Or.inl rfl) pe_str)) pss_nil)
        (pss_one (ps_ret (pe_tup (pa_cons (pe_tup (pa_cons pe_str (pa_cons (pe_callTy call_int_str (by rfl) T.n_int (by decide +kernel) (pa_cons (pv 5) pa_nil)) pa_nil))) (pa_cons (pv 5) pa_nil)))))))) pss_nil)
        (pss_cons (ps_if (pt_cmpR (op_eqU hr.units) (pv 1) pe_int (nomark _)) (pss_cons (ps_set (i := 6) sc_law_word.nd rfl (Or.inl rfl) (pe_call (ok_law_text T) hr (by rfl) T.g_law_text T.F_law_text.kp T.b_law_text .nil pass0 (pa_cons (pv 0) (pa_cons (pe_call (ok_law_draw T) (hr.mono (by decide)) (by rfl) T.g_law_draw T.F_law_draw.kp T.b_law_draw .nil pass0 (pa_cons (pv 0) (pa_cons pe_int pa_nil))) pa_nil))))
        (pss_one (ps_ret (pe_tup (pa_cons (pe_tup (pa_cons pe_str (pa_cons (pv 6) pa_nil))) (pa_cons (pe_call (ok_law_quoted T) (hr.mono (by decide)) (by rfl) T.g_law_quoted T.F_law_quoted.kp T.b_law_quoted .nil pass0 (pa_cons (pv 6) pa_nil)) pa_nil)))))) pss_nil)
        (pss_cons (ps_set (i := 7) sc_law_word.nd rfl (Or.inl rfl) pe_str)
        (pss_cons (ps_set (i := 8) sc_law_word.nd rfl (Or.inl rfl) (pe_ix ix_seq (pv 7) (pe_call (ok_law_draw T) (hr.mono (by decide)) (by rfl) T.g_law_draw T.F_law_draw.kp T.b_law_draw .nil pass0 (pa_cons (pv 0) (pa_cons (pe_callB call_lenU (by rfl) T.n_len (by decide +kernel) (pa_cons (pv 7) pa_nil)) pa_nil))) (fun _ _ => rfl)))
        (pss_one (ps_ret (pe_tup (pa_cons (pe_tup (pa_cons pe_str (pa_cons (pv 8) pa_nil))) (pa_cons (pv 8) pa_nil))))))))))), ?_⟩
    have smL : SM.length = 26 := by decide +kernel
    have knL : KN.length = 36 := by decide +kernel
    have soL : SO.length = 34 := by decide +kernel
    have fin : ∀ {H1 : Hp} {t : Str} {v : V} {x : Str} {p1 p2 : Addr}, Drw (cell a) H H1 → GoodW t v x → H1 p1 = none → (upd H1 p1 (.tup [.str t, v])) p2 = none → Q (.ref p2) (upd (upd H1 p1 (.tup [.str t, v])) p2 (.tup [.ref p1, .str x])) := by
      intro H1 t v x p1 p2 D g n1 n2
      have y := Same.new (o := HO.tup [.ref p1, .str x]) (Same.refl (upd H1 p1 (.tup [.str t, v]))) n2
      exact q p2 p1 t v x _ ((D.new n1).then y) g upd_same (y _ _ upd_same)
    walk_at "rd"
    refine ⟨a, 5, rfl, hs, by decide, fun d H1 d1 D1 => ?_⟩
    walk_at "rd1"
    with_reducible refine r_seq ?_
    with_reducible refine r_ifS ?_
    refine any_test (S := fun b H' => Drw (cell a) H H') (fun QB kk => ?_) (fun b H2 D2 => ?_)
    · walk_at "rd"
      refine r_ite (fun _ => kk _ _ D1) (fun _ => ?_)
      walk_at "rd"
      refine r_ite (fun _ => ?_) (fun _ => kk _ _ D1)
      walk_at "rd"
      refine ⟨a, 2, rfl, D1.st, by decide, fun d2 H2 d3 D2 => ?_⟩
      walk_at "rd"
      exact kk _ _ (D1.trans D2)
    · cases b with
      | true =>
        rw [if_pos rfl]
        walk_at "rd"
        refine ⟨rfl, ?_⟩
        walk_at "rd"
        refine r_addS (by decide +kernel) ?_
        obtain ⟨z, hz, zl, zc⟩ : ∃ z : Str, z = SM ++ Str.ofString "0123456789" ∧ z.length = 36 ∧ ∀ c ∈ cs z, nmc c = true := ⟨_, rfl, by decide +kernel, by decide +kernel⟩
        rw [← hz]
        walk_at "rd"
        refine r_small (by decide) fun p1 f1 => ?_
        obtain ⟨G1, eG1, x1, g1⟩ := new1 f1 (.lst [.int 0, .int 1, .int 2, .int 5, .int 10, .int 11])
        rw [← eG1]
        have na1 : ¬ (cell a).A p1 := (cell a).fresh D2.st f1
        have D3 := D2.then x1
        walk_at "rd"
        refine ⟨a, 6, rfl, D3.st, by decide, fun d2 H4 e2 D4 => ?_⟩
        obtain ⟨m, hm, em⟩ := num_at (ms := [0, 1, 2, 5, 10, 11]) (d := d2) (by show d2 < 6; omega)
        have hm : m ≤ 11 := (show ∀ m ∈ [0, 1, 2, 5, 10, 11], m ≤ 11 by decide) m hm
        walk_at "rd"
        refine r_ixL (sqL (D4.at na1 g1)) (atI_nat em) ?_
        have D5 := D3.trans D4
        clear D2 D3 D4 g1 x1 na1
        walk_at "rd"
        refine ⟨rfl, ?_⟩
        walk_at "rd"
        refine ⟨a, 26, rfl, D5.st, by decide, fun d3 H6 e3 D6 => ?_⟩
        obtain ⟨c, hc1, hc2⟩ := s_in (z := SM) (d := d3) (by omega)
        walk_at "rd"
        refine r_ixS (by rw [smL, sizeLine_eq]; decide) hc2 ?_
        walk_at "rd"
        refine ⟨⟨_, rfl⟩, ?_⟩
        walk_at "rd"
        have D7 := D5.trans D6
        refine l_lcR (by omega) (by omega) (fun C i H2 => Drw (cell a) H H2 ∧ ∃ ls : List Nat, H2 C = some (.lst ((ls.map fun c => (⟨#[c]⟩ : Str)).map V.str)) ∧ ls.length = i ∧ ∀ c ∈ ls, nmc c = true) (fun C hC => ⟨D7.new hC, [], upd_same, rfl, fun _ h => nomatch h⟩) (fun C i H2 hC hi hP => ?_) (fun C H2 hC hP => ?_)
        · obtain ⟨D2, ls, gC, hl, hls⟩ := hP
          have na := (cell a).fresh D7.st hC
          have hCH : H C = none := by
            cases e : H C with
            | none => rfl
            | some o => rw [D7.at na e] at hC; cases hC
          walk_at "rd"
          refine ⟨rfl, ?_⟩
          walk_at "rd"
          refine ⟨a, 36, rfl, D2.st, by decide, fun d2 H3 e2 D3 => ?_⟩
          obtain ⟨c2, hc3, hc4⟩ := s_in (z := z) (d := d2) (by omega)
          walk_at "rd"
          refine r_ixS (by rw [zl, sizeLine_eq]; decide) hc4 ?_
          refine ⟨_, D3.at na gC, by rw [List.length_map, List.length_map]; exact Nat.lt_of_le_of_lt (show ls.length ≤ 20 by omega) (by decide), (D2.trans D3).put hCH na, ls ++ [c2], by rw [upd_same, List.map_append, List.map_append]; rfl, by rw [List.length_append, hl]; rfl, fun c h => ?_⟩
          rcases List.mem_append.mp h with h | h
          · exact hls c h
          · rw [List.mem_singleton.mp h]
            exact zc _ hc3
        · obtain ⟨D2, ls, gC, hl, hls⟩ := hP
          rw [Int.toNat_natCast] at hl
          refine ⟨"", C, _, rfl, rfl, .inl (sqL gC), (by
            rw [sum_signs]
            show ls.length + _ * 0 ≤ _
            omega), ?_⟩
          obtain ⟨o, eo, ho⟩ : ∃ o, o = Txt.join "" (ls.map fun c => (⟨#[c]⟩ : Str)) ∧ cs o = ls := ⟨_, rfl, join_signs ls⟩
          have ol : o.length = m := by rw [← cs_len, ho]; exact hl
          show rAddU K (.str ⟨#[c]⟩) (.str (Txt.join "" (ls.map fun c => (⟨#[c]⟩ : Str)))) H2 _
          rw [← eo]
          refine r_addS (by rw [ol, sizeLine_eq]; show 1 + m ≤ _; omega) ?_
          have hw := cut1 c o
          rw [ho] at hw
          have gw := good_name hw (SM_cs c hc1) hls (by rw [app_len, ol]; show 1 + m ≤ _; omega)
          walk_at "rd"
          refine r_small nsz fun p3 n3 => ?_
          walk_at "rd"
          refine r_small nsz fun p4 n4 => ?_
          exact fin D2 gw n3 n4
      | false =>
        rw [if_neg (by decide)]
        walk_at "rd"
        refine r_ite (fun _ => ?_) (fun _ => ?_)
        · walk_at "rd"
          refine r_small (by decide) fun p1 f1 => ?_
          obtain ⟨G1, eG1, x1, g1⟩ := new1 f1 (.lst [.int 0, .int 0, .int 1, .int 3, .int 7, .int 8])
          rw [← eG1]
          have na1 : ¬ (cell a).A p1 := (cell a).fresh D2.st f1
          have D3 := D2.then x1
          walk_at "rd"
          refine ⟨a, 6, rfl, D3.st, by decide, fun d2 H4 e2 D4 => ?_⟩
          obtain ⟨m, hm, em⟩ := num_at (ms := [0, 0, 1, 3, 7, 8]) (d := d2) (by show d2 < 6; omega)
          have hm : m ≤ 8 := (show ∀ m ∈ [0, 0, 1, 3, 7, 8], m ≤ 8 by decide) m hm
          walk_at "rd"
          refine r_ixL (sqL (D4.at na1 g1)) (atI_nat em) ?_
          have D5 := D3.trans D4
          clear D2 D3 D4 g1 x1 na1
          have l9 : (Str.ofString "123456789").length = 9 := by decide +kernel
          have l10 : (Str.ofString "0123456789").length = 10 := by decide +kernel
          have c9 : ∀ c ∈ cs (Str.ofString "123456789"), dgc c = true ∧ c ≠ 48 := by decide +kernel
          have c10 : ∀ c ∈ cs (Str.ofString "0123456789"), dgc c = true := by decide +kernel
          walk_at "rd"
          refine ⟨a, 9, rfl, D5.st, by decide, fun d3 H6 e3 D6 => ?_⟩
          obtain ⟨c, hc1, hc2⟩ := s_in (z := Str.ofString "123456789") (d := d3) (by omega)
          walk_at "rd"
          refine r_ixS (by rw [l9, sizeLine_eq]; decide) hc2 ?_
          walk_at "rd"
          refine ⟨⟨_, rfl⟩, ?_⟩
          walk_at "rd"
          have D7 := D5.trans D6
          refine l_lcR (by omega) (by omega) (fun C i H2 => Drw (cell a) H H2 ∧ ∃ ls : List Nat, H2 C = some (.lst ((ls.map fun c => (⟨#[c]⟩ : Str)).map V.str)) ∧ ls.length = i ∧ ∀ c ∈ ls, dgc c = true) (fun C hC => ⟨D7.new hC, [], upd_same, rfl, fun _ h => nomatch h⟩) (fun C i H2 hC hi hP => ?_) (fun C H2 hC hP => ?_)
          · obtain ⟨D2, ls, gC, hl, hls⟩ := hP
            have na := (cell a).fresh D7.st hC
            have hCH : H C = none := by
              cases e : H C with
              | none => rfl
              | some o => rw [D7.at na e] at hC; cases hC
            walk_at "rd"
            refine ⟨rfl, ?_⟩
            walk_at "rd"
            refine ⟨a, 10, rfl, D2.st, by decide, fun d2 H3 e2 D3 => ?_⟩
            obtain ⟨c2, hc3, hc4⟩ := s_in (z := Str.ofString "0123456789") (d := d2) (by omega)
            walk_at "rd"
            refine r_ixS (by rw [l10, sizeLine_eq]; decide) hc4 ?_
            refine ⟨_, D3.at na gC, by rw [List.length_map, List.length_map]; exact Nat.lt_of_le_of_lt (show ls.length ≤ 20 by omega) (by decide), (D2.trans D3).put hCH na, ls ++ [c2], by rw [upd_same, List.map_append, List.map_append]; rfl, by rw [List.length_append, hl]; rfl, fun c h => ?_⟩
            rcases List.mem_append.mp h with h | h
            · exact hls c h
            · rw [List.mem_singleton.mp h]
              exact c10 _ hc3
          · obtain ⟨D2, ls, gC, hl, hls⟩ := hP
            rw [Int.toNat_natCast] at hl
            refine ⟨"", C, _, rfl, rfl, .inl (sqL gC), (by
              rw [sum_signs]
              show ls.length + _ * 0 ≤ _
              omega), ?_⟩
            obtain ⟨o, eo, ho⟩ : ∃ o, o = Txt.join "" (ls.map fun c => (⟨#[c]⟩ : Str)) ∧ cs o = ls := ⟨_, rfl, join_signs ls⟩
            have ol : o.length = m := by rw [← cs_len, ho]; exact hl
            show rAddU K (.str ⟨#[c]⟩) (.str (Txt.join "" (ls.map fun c => (⟨#[c]⟩ : Str)))) H2 _
            rw [← eo]
            refine r_addS (by rw [ol, sizeLine_eq]; show 1 + m ≤ _; omega) ?_
            have hw := cut1 c o
            rw [ho] at hw
            have wl : (⟨#[c]⟩ ++ o : Str).length ≤ 9 := by rw [app_len, ol]; show 1 + m ≤ _; omega
            have gw := good_num hw (c9 c hc1).1 (c9 c hc1).2 hls wl
            have nt : PySem.intText? (⟨#[c]⟩ ++ o) = some (nv (⟨#[c]⟩ ++ o)) := nv_ok (fun d hd => by
              rw [hw] at hd
              rcases List.mem_cons.mp hd with rfl | hd
              · exact (c9 _ hc1).1
              · exact hls d hd) (fun e => by rw [hw] at e; cases e) (by omega)
            walk_at "rd"
            refine ⟨a, 4, rfl, D2.st, by decide, fun d8 H8 e8 D8 => ?_⟩
            walk_at "rd"
            refine r_ite (fun _ => ?_) (fun _ => ?_)
            · walk_at "rd"
              refine ⟨_, _, rfl, nv_ok (x := ⟨#[48]⟩) (by decide) (by decide) (by decide), by decide, ?_⟩
              walk_at "rd"
              refine r_small nsz fun p3 n3 => ?_
              walk_at "rd"
              refine r_small nsz fun p4 n4 => ?_
              exact fin (D2.trans D8) good_zero n3 n4
            · walk_at "rd"
              refine ⟨_, _, rfl, nt, by omega, ?_⟩
              walk_at "rd"
              refine r_small nsz fun p3 n3 => ?_
              walk_at "rd"
              refine r_small nsz fun p4 n4 => ?_
              exact fin (D2.trans D8) gw n3 n4
        · walk_at "rd"
          refine r_ite (fun _ => ?_) (fun _ => ?_)
          · walk_at "rd"
            refine ⟨a, 6, rfl, D2.st, by decide, fun d3 H3 e3 D3 => ?_⟩
            walk_at "rd"
            refine ⟨a, d3, rfl, D3.st, by omega, fun o H4 D4 ol => ?_⟩
            walk_at "rd"
            refine r_small nsz fun p3 n3 => ?_
            walk_at "rd"
            refine ⟨o, rfl, by omega, ?_⟩
            walk_at "rd"
            refine r_small nsz fun p4 n4 => ?_
            exact fin ((D2.trans D3).trans D4) (good_text (by omega)) n3 n4
          · walk_at "rd"
            refine r_lenS (z := SO) (by rw [soL, sizeLine_eq]; decide) ?_
            walk_at "rd"
            refine ⟨a, _, rfl, D2.st, by omega, fun d3 H3 e3 D3 => ?_⟩
            obtain ⟨c, hc1, hc2⟩ := s_in (z := SO) (d := d3) (by omega)
            walk_at "rd"
            refine r_ixS (z := SO) (by rw [soL, sizeLine_eq]; decide) hc2 ?_
            walk_at "rd"
            refine r_small nsz fun p3 n3 => ?_
            walk_at "rd"
            refine r_small nsz fun p4 n4 => ?_
            exact fin (D2.trans D3) (good_sign (SO_cs c hc1)) n3 n4
end
end K18

namespace K18
open PySem PySem.Spec PyProof.Rows L2 Dk Q18
/-- one step of a reading -/
local macro_rules | `(tactic| walk_at "rd1") => `(tactic| first
  | ((with_reducible refine r_var (v := ?rv) ?rh ?_); (case rh => rfl))
  | with_reducible refine r_c ?_
  | with_reducible refine r_seq ?_
  | with_reducible refine r_asg ?_
  | with_reducible refine r_par ?_
  | with_reducible refine r_gname ?_
  | with_reducible refine r_op ?_
  | with_reducible refine r_forLo ?_
  | with_reducible refine r_forTo ?_
  | with_reducible refine r_forSo ?_
  | with_reducible refine r_forRo ?_
  | with_reducible refine r_forRvo ?_
  | with_reducible refine r_forZo ?_
  | with_reducible refine r_revS ?_
  | with_reducible refine r_lcRo ?_
  | with_reducible refine r_lcLo ?_
  | with_reducible refine r_yes ?_
  | with_reducible refine r_callK0 ?_
  | with_reducible refine r_break ?_
  | with_reducible refine r_continue ?_
  | with_reducible refine r_forR2o ?_
  | with_reducible refine r_forEo ?_
  | with_reducible refine r_forESo ?_
  | with_reducible refine r_xfo ?_
  | with_reducible refine r_noP ?_
  | with_reducible refine r_part ?_
  | with_reducible refine r_pI ?_
  | with_reducible refine r_gcons ?_
  | with_reducible refine r_gnil ?_
  | with_reducible refine r_mkO ?_
  | with_reducible refine r_un ?_
  | with_reducible refine r_addI ?_
  | with_reducible refine r_I0 ?_
  | with_reducible refine r_U ?_
  | with_reducible refine r_cons ?_
  | with_reducible refine r_nil ?_
  | with_reducible refine r_CB ?_
  | with_reducible refine r_call ?_
  | with_reducible refine r_callS ?_
  | with_reducible refine r_int ?_
  | with_reducible refine r_max ?_
  | with_reducible refine r_min ?_
  | with_reducible refine r_test ?_
  | with_reducible refine r_B ?_
  | with_reducible refine r_blv ?_
  | with_reducible refine r_and ?_
  | with_reducible refine r_or ?_
  | with_reducible refine r_not ?_
  | with_reducible refine r_andV ?_
  | with_reducible refine r_orV ?_
  | with_reducible refine r_notV ?_
  | with_reducible refine r_ifE ?_
  | with_reducible refine r_ifS ?_
  | with_reducible refine r_ret ?_
  | with_reducible refine r_retN ?_
  | with_reducible refine r_drop ?_
  | with_reducible refine r_next ?_
  | with_reducible refine r_sl ?_
  | with_reducible refine r_gsub ?_
  | with_reducible refine r_bm ?_
  | with_reducible refine r_bm0 ?_
  | with_reducible refine r_tup ?_
  | with_reducible refine r_lst ?_
  | with_reducible refine r_isN ?_
  | with_reducible refine r_notN ?_
  | with_reducible refine r_chain ?_
  | with_reducible refine r_callK ?_
  | with_reducible refine r_isB ?_
  | with_reducible refine r_lcEio ?_
  | with_reducible refine r_forEi ?_
  | with_reducible refine r_lcTo ?_
  | with_reducible refine r_lcSo ?_
  | with_reducible refine r_m1 ?_
  | with_reducible refine r_dget ?_
  | with_reducible refine r_din ?_
  | with_reducible refine r_dnotin ?_
  | with_reducible refine r_starC ?_
  | with_reducible refine r_callKS ?_
  | with_reducible refine r_itt ?_
  | with_reducible refine r_iff ?_
  | with_reducible refine r_ittN ?_
  | with_reducible refine r_iffN ?_
  | ((with_reducible refine r_ittD ?rh ?_); (case rh => rfl))
  | ((with_reducible refine r_iffD ?rh ?_); (case rh => rfl))
  | ((with_reducible refine r_modP ?rh ?_); (case rh => decide))
  | ((with_reducible refine r_eq ?rh ?_); (case rh => rfl))
  | ((with_reducible refine r_eqP ?rh ?_); (case rh => rfl))
  | ((with_reducible refine r_ne ?rh ?_); (case rh => rfl)))
local macro_rules | `(tactic| walk_at "rd") => `(tactic| repeat walk_at "rd1")
local macro_rules | `(tactic| walk_at "isi") => `(tactic| first | refine r_isi (b := true) (by assumption) (by decide +kernel) ?_ | refine r_isi (b := false) (by assumption) (by decide +kernel) ?_)
local macro_rules | `(tactic| walk_at "rs1") => `(tactic| first
  | with_reducible refine r_seq ?_
  | with_reducible refine r_asg ?_
  | with_reducible refine r_gname ?_
  | with_reducible refine r_ret ?_)
local macro_rules | `(tactic| walk_at "rs") => `(tactic| repeat walk_at "rs1")

local macro_rules | `(tactic| walk_at "cat") => `(tactic| repeat first | (walk_at "rd1") | (with_reducible refine r_addS (by simp only [app_len, sizeLine_eq]; omega) ?_) | (with_reducible refine r_slS (by rw [sizeLine_eq]; omega) ?_))
def spBent : Sp := fun vs H Q _ => ∃ (a : Addr) (z : Str), vs = [.ref a, .str z] ∧ Stt H a ∧ z.length ≤ 1000 ∧ ∀ o H', Drw (cell a) H H' → o.length ≤ 3 * z.length + 1 → Q (.str o) H'
section
variable {P : Program} {w : World} {K : PySem.W.Frag} {mg : Str → Option Value} {base : Heap}
theorem ok_law_bent (T : Txt K mg) : FnOk P w K mg base CX0 3 T.a_law_bent T.d_law_bent ["_law_state", "_law_line"] spBent := by
  refine T.F_law_bent.ok sc_law_bent (fun vs H Q E h => ?_) (fun cdv A outer s H vs Q E hr h => ?_)
  · obtain ⟨a, z, rfl, _⟩ := h
    rfl
  · obtain ⟨a, z, rfl, hs, zl, q⟩ := h
    refine ⟨_, (pss_cons (ps_set (i := 2) sc_law_bent.nd rfl (Or.inl rfl) (pe_op op_addU pe_str (pe_ix ix_seq (pe_call0 (ok_law_signs T) hr (by rfl) T.g_law_signs T.F_law_signs.kp T.b_law_signs .nil pass0) (pe_call (ok_law_draw T) (hr.mono (by decide)) (by rfl) T.g_law_draw T.F_law_draw.kp T.b_law_draw .nil pass0 (pa_cons (pv 0) (pa_cons pe_int pa_nil))) (fun _ _ => rfl))))
        (pss_cons (ps_set (i := 3) sc_law_bent.nd rfl (Or.inl rfl) (pe_ix ix_seq (pv 2) (pe_call (ok_law_draw T) (hr.mono (by decide)) (by rfl) T.g_law_draw T.F_law_draw.kp T.b_law_draw .nil pass0 (pa_cons (pv 0) (pa_cons (pe_callB call_lenU (by rfl) T.n_len (by decide +kernel) (pa_cons (pv 2) pa_nil)) pa_nil))) (fun _ _ => rfl)))
        (pss_cons (ps_set (i := 4) sc_law_bent.nd rfl (Or.inl rfl) (pe_call (ok_law_draw T) (hr.mono (by decide)) (by rfl) T.g_law_draw T.F_law_draw.kp T.b_law_draw .nil pass0 (pa_cons (pv 0) (pa_cons (pe_op op_addU (pe_callB call_lenU (by rfl) T.n_len (by decide +kernel) (pa_cons (pv 1) pa_nil)) pe_int) pa_nil))))
        (pss_cons (ps_set (i := 5) sc_law_bent.nd rfl (Or.inl rfl) (pe_call (ok_law_draw T) (hr.mono (by decide)) (by rfl) T.g_law_draw T.F_law_draw.kp T.b_law_draw .nil pass0 (pa_cons (pv 0) (pa_cons pe_int pa_nil))))
        (pss_cons (ps_if (pt_cmpR (op_eqU hr.units) (pv 5) pe_int (nomark _)) (pss_one (ps_ret (pe_op op_addU (pe_slice sl_U (pv 1) po_none (po_some (pv 4))) (pe_slice sl_U (pv 1) (po_some (pe_op op_addU (pv 4) pe_int)) po_none)))) pss_nil)
        (pss_cons (ps_if (pt_cmpR (op_eqU hr.units) (pv 5) pe_int (nomark _)) (pss_one (ps_ret (pe_op op_addU (pe_op op_addU (pe_slice sl_U (pv 1) po_none (po_some (pv 4))) (pv 3)) (pe_slice sl_U (pv 1) (po_some (pe_op op_addU (pv 4) pe_int)) po_none)))) pss_nil)
        (pss_cons (ps_if (pt_cmpR (op_eqU hr.units) (pv 5) pe_int (nomark _)) (pss_one (ps_ret (pe_op op_addU (pe_op op_addU (pe_slice sl_U (pv 1) po_none (po_some (pv 4))) (pe_slice sl_U (pv 1) (po_some (pv 4)) (po_some (pe_op op_addU (pv 4) pe_int)))) (pe_slice sl_U (pv 1) (po_some (pv 4)) po_none)))) pss_nil)
        (pss_cons (ps_if (pt_cmpR (op_eqU hr.units) (pv 5) pe_int (nomark _)) (pss_one (ps_ret (pe_ix ix_seq (pe_lst (pa_cons (pe_op op_addU (pv 1) (pv 3)) (pa_cons (pe_op op_addU (pv 3) (pv 1)) (pa_cons (pe_op op_addU (pv 1) pe_str) (pa_cons (pe_op op_addU pe_str (pv 1)) pa_nil))))) (pe_call (ok_law_draw T) (hr.mono (by decide)) (by rfl) T.g_law_draw T.F_law_draw.kp T.b_law_draw .nil pass0 (pa_cons (pv 0) (pa_cons pe_int pa_nil))) (fun _ _ => rfl)))) pss_nil)
        (pss_one (ps_ret (pe_op op_addU (pe_op op_addU (pe_slice sl_U (pv 1) po_none (po_some (pv 4))) (pv 3)) (pe_slice sl_U (pv 1) (po_some (pv 4)) po_none)))))))))))), ?_⟩
    have l1 : (Str.ofString "  \n\"\\n0019az_A-").length = 15 := by decide +kernel
    have l2 : (Str.ofString " ").length = 1 := by decide +kernel
    walk_at "rd"
    refine ⟨rfl, ?_⟩
    walk_at "rd"
    refine ⟨a, 95, rfl, hs, by decide, fun d H1 d1 D1 => ?_⟩
    obtain ⟨c, _, ha⟩ := s_in (z := SG) (d := d) (by rw [SG_len]; omega)
    walk_at "rd"
    refine r_ixS (by rw [SG_len]; decide) ha ?_
    have l3 : (⟨#[c]⟩ : Str).length = 1 := rfl
    walk_at "rd"
    refine r_addS (by rw [l1, l3]; decide) ?_
    obtain ⟨so, es, sl⟩ : ∃ so, so = Str.ofString "  \n\"\\n0019az_A-" ++ ⟨#[c]⟩ ∧ so.length = 16 := ⟨_, rfl, by rw [app_len, l1, l3]⟩
    rw [← es]
    walk_at "rd"
    refine r_lenS (by rw [sl, sizeLine_eq]; decide) ?_
    walk_at "rd"
    refine ⟨a, _, rfl, D1.st, by omega, fun d2 H2 d3 D2 => ?_⟩
    obtain ⟨c2, _, ha2⟩ := s_in (z := so) (d := d2) (by omega)
    walk_at "rd"
    refine r_ixS (by rw [sl, sizeLine_eq]; decide) ha2 ?_
    have l4 : (⟨#[c2]⟩ : Str).length = 1 := rfl
    obtain ⟨sg, eg⟩ : ∃ sg : Str, sg = ⟨#[c2]⟩ := ⟨_, rfl⟩
    rw [← eg] at l4 ⊢
    walk_at "rd"
    refine r_lenS (by rw [sizeLine_eq]; omega) ?_
    walk_at "rd"
    refine ⟨a, _, rfl, D2.st, by omega, fun k H3 d4 D3 => ?_⟩
    walk_at "rd"
    refine ⟨a, 5, rfl, D3.st, by decide, fun y H4 d5 D4 => ?_⟩
    have D := ((D1.trans D2).trans D3).trans D4
    have c1 := cut_len z none (some ((k : Nat) : Int))
    have c2 := cut_len z (some ((k : Nat) : Int)) none
    have c3 := cut_len z (some ((k : Nat) : Int)) (some ((k : Nat) + 1 : Int))
    have c4 := cut_len z (some ((k : Nat) + 1 : Int)) none
    walk_at "rd"
    refine r_ite (fun _ => ?_) (fun _ => ?_)
    · walk_at "cat"
      exact q _ _ D (by simp only [app_len]; omega)
    walk_at "rd"
    refine r_ite (fun _ => ?_) (fun _ => ?_)
    · walk_at "cat"
      exact q _ _ D (by simp only [app_len]; omega)
    walk_at "rd"
    refine r_ite (fun _ => ?_) (fun _ => ?_)
    · walk_at "cat"
      exact q _ _ D (by simp only [app_len]; omega)
    walk_at "rd"
    refine r_ite (fun _ => ?_) (fun _ => ?_)
    · walk_at "cat"
      refine r_small nsz fun p1 f1 => ?_
      obtain ⟨G1, eG1, x1, g1⟩ := new1 f1 (.lst [.str (z ++ sg), .str (sg ++ z), .str (z ++ Str.ofString " "), .str (Str.ofString " " ++ z)])
      rw [← eG1]
      have na1 : ¬ (cell a).A p1 := (cell a).fresh D.st f1
      have D5 := D.then x1
      walk_at "rd"
      refine ⟨a, 4, rfl, D5.st, by decide, fun d6 H6 e6 D6 => ?_⟩
      obtain ⟨m, hm, em⟩ : ∃ m : Str, m.length ≤ 3 * z.length + 1 ∧ ([.str (z ++ sg), .str (sg ++ z), .str (z ++ Str.ofString " "), .str (Str.ofString " " ++ z)] : List V)[d6]? = some (.str m) := by
        have : d6 = 0 ∨ d6 = 1 ∨ d6 = 2 ∨ d6 = 3 := by omega
        rcases this with rfl | rfl | rfl | rfl
        · exact ⟨_, by rw [app_len]; omega, rfl⟩
        · exact ⟨_, by rw [app_len]; omega, rfl⟩
        · exact ⟨_, by rw [app_len]; omega, rfl⟩
        · exact ⟨_, by rw [app_len]; omega, rfl⟩
      walk_at "rd"
      refine r_ixL (sqL (D6.at na1 g1)) (atI_nat em) ?_
      exact q _ _ (D5.trans D6) hm
    · walk_at "cat"
      exact q _ _ D (by simp only [app_len]; omega)
end
end K18

namespace K18
open PySem PySem.Spec PyProof.Rows L2 Dk Q18
/-- one step of a reading -/
local macro_rules | `(tactic| walk_at "rd1") => `(tactic| first
  | ((with_reducible refine r_var (v := ?rv) ?rh ?_); (case rh => rfl))
  | with_reducible refine r_c ?_
  | with_reducible refine r_seq ?_
  | with_reducible refine r_asg ?_
  | with_reducible refine r_par ?_
  | with_reducible refine r_gname ?_
  | with_reducible refine r_op ?_
  | with_reducible refine r_forLo ?_
  | with_reducible refine r_forTo ?_
  | with_reducible refine r_forSo ?_
  | with_reducible refine r_forRo ?_
  | with_reducible refine r_forRvo ?_
  | with_reducible refine r_forZo ?_
  | with_reducible refine r_revS ?_
  | with_reducible refine r_lcRo ?_
  | with_reducible refine r_lcLo ?_
  | with_reducible refine r_yes ?_
  | with_reducible refine r_callK0 ?_
  | with_reducible refine r_break ?_
  | with_reducible refine r_continue ?_
  | with_reducible refine r_forR2o ?_
  | with_reducible refine r_forEo ?_
  | with_reducible refine r_forESo ?_
  | with_reducible refine r_xfo ?_
  | with_reducible refine r_noP ?_
  | with_reducible refine r_part ?_
  | with_reducible refine r_pI ?_
  | with_reducible refine r_gcons ?_
  | with_reducible refine r_gnil ?_
  | with_reducible refine r_mkO ?_
  | with_reducible refine r_un ?_
  | with_reducible refine r_addI ?_
  | with_reducible refine r_I0 ?_
  | with_reducible refine r_U ?_
  | with_reducible refine r_cons ?_
  | with_reducible refine r_nil ?_
  | with_reducible refine r_CB ?_
  | with_reducible refine r_call ?_
  | with_reducible refine r_callS ?_
  | with_reducible refine r_int ?_
  | with_reducible refine r_max ?_
  | with_reducible refine r_min ?_
  | with_reducible refine r_test ?_
  | with_reducible refine r_B ?_
  | with_reducible refine r_blv ?_
  | with_reducible refine r_and ?_
  | with_reducible refine r_or ?_
  | with_reducible refine r_not ?_
  | with_reducible refine r_andV ?_
  | with_reducible refine r_orV ?_
  | with_reducible refine r_notV ?_
  | with_reducible refine r_ifE ?_
  | with_reducible refine r_ifS ?_
  | with_reducible refine r_ret ?_
  | with_reducible refine r_retN ?_
  | with_reducible refine r_drop ?_
  | with_reducible refine r_next ?_
  | with_reducible refine r_sl ?_
  | with_reducible refine r_gsub ?_
  | with_reducible refine r_bm ?_
  | with_reducible refine r_bm0 ?_
  | with_reducible refine r_tup ?_
  | with_reducible refine r_lst ?_
  | with_reducible refine r_isN ?_
  | with_reducible refine r_notN ?_
  | with_reducible refine r_chain ?_
  | with_reducible refine r_callK ?_
  | with_reducible refine r_isB ?_
  | with_reducible refine r_lcEio ?_
  | with_reducible refine r_forEi ?_
  | with_reducible refine r_lcTo ?_
  | with_reducible refine r_lcSo ?_
  | with_reducible refine r_m1 ?_
  | with_reducible refine r_dget ?_
  | with_reducible refine r_din ?_
  | with_reducible refine r_dnotin ?_
  | with_reducible refine r_starC ?_
  | with_reducible refine r_callKS ?_
  | with_reducible refine r_itt ?_
  | with_reducible refine r_iff ?_
  | with_reducible refine r_ittN ?_
  | with_reducible refine r_iffN ?_
  | ((with_reducible refine r_ittD ?rh ?_); (case rh => rfl))
  | ((with_reducible refine r_iffD ?rh ?_); (case rh => rfl))
  | ((with_reducible refine r_modP ?rh ?_); (case rh => decide))
  | ((with_reducible refine r_eq ?rh ?_); (case rh => rfl))
  | ((with_reducible refine r_eqP ?rh ?_); (case rh => rfl))
  | ((with_reducible refine r_ne ?rh ?_); (case rh => rfl)))
local macro_rules | `(tactic| walk_at "rd") => `(tactic| repeat walk_at "rd1")
local macro_rules | `(tactic| walk_at "isi") => `(tactic| first | refine r_isi (b := true) (by assumption) (by decide +kernel) ?_ | refine r_isi (b := false) (by assumption) (by decide +kernel) ?_)
local macro_rules | `(tactic| walk_at "rs1") => `(tactic| first
  | with_reducible refine r_seq ?_
  | with_reducible refine r_asg ?_
  | with_reducible refine r_gname ?_
  | with_reducible refine r_ret ?_)
local macro_rules | `(tactic| walk_at "rs") => `(tactic| repeat walk_at "rs1")

/-- a drawn word: what is told of it and its signs -/
def D3 (H : Hp) (x : V) (w : W3) : Prop := ∃ p q, x = .ref p ∧ H p = some (.tup [.ref q, .str w.2.2]) ∧ H q = some (.tup [.str w.1, w.2.1])
instance : Imm D3 := ⟨fun t ⟨p, q, h1, h2, h3⟩ => ⟨p, q, h1, t _ _ h2, t _ _ h3⟩⟩
theorem cell_tk {a : Addr} {H H' : Hp} (B : Stt H a) (D : Drw (cell a) H H') : Tk H H' := fun q xs hq => D.hh _ _ (na_tup B hq) hq
theorem join_len (s : Str) : ∀ l : List Str, (Str.join s l).length ≤ (l.map (·.length)).sum + l.length * s.length
  | [] => Nat.zero_le _
  | [p] => by
    show p.length ≤ p.length + 0 + (0 + 1) * s.length
    omega
  | p :: p2 :: l => by
    have ih := join_len s (p2 :: l)
    show (p ++ s ++ Str.join s (p2 :: l)).length ≤ _
    rw [app_len, app_len, List.map_cons, List.sum_cons, List.length_cons (a := p), Nat.add_mul]
    omega
theorem sum_le {l : List W3} (h : Good3 l) : ((l.map fun x => x.2.2).map (·.length)).sum ≤ l.length * 20 := by
  induction l with
  | nil => exact Nat.le_refl _
  | cons x l ih =>
    have := ih fun y hy => h y (List.mem_cons_of_mem _ hy)
    have := (h x (List.mem_cons_self ..)).2.1
    rw [List.map_cons, List.map_cons, List.sum_cons, List.length_cons, Nat.add_mul]
    omega
/-- a short text -/
def Sh (v : V) : Prop := ∃ z : Str, v = .str z ∧ z.length ≤ 20
def sp_law (K : PySem.W.Frag) : Sp := fun vs H Q _ => ∃ (a : Addr) (ns : List Int), vs = [.ref a] ∧ SqL K H a (ns.map V.int) ∧ ns.length ≤ 63 ∧ ∀ H', Q (.bl true) H'
section
variable {P : Program} {w : World} {K : PySem.W.Frag} {mg : Str → Option Value} {base : Heap}
theorem ok_law (T : Txt K mg) : FnOk P w K mg base CX0 11 T.a_law T.d_law ["_law_script"] (sp_law K) := by
  refine T.F_law.ok sc_law (fun vs H Q E h => ?_) (fun cdv A outer s H vs Q E hr h => ?_)
  · obtain ⟨a, ns, rfl, _⟩ := h
    rfl
  · obtain ⟨sc, ns, rfl, hS, hlen, q⟩ := h
    refine ⟨_, (pss_cons (ps_set (i := 1) sc_law.nd rfl (Or.inr rfl) (pe_call (ok_law_start T) (hr.mono (by decide)) (by rfl) T.g_law_start T.F_law_start.kp T.b_law_start .nil pass0 (pa_cons (pv 0) pa_nil)))
        (pss_cons (ps_setLc (i := 3) (own := [("_law_k", 2)]) (g := (gName 2)) rfl sc_law.nd rfl rfl (sw_true rfl rfl rfl (by decide +kernel)) (pi_range1 (by rfl) T.n_range (pa_cons (pe_call (ok_law_draw T) (hr.mono (by decide)) (by rfl) T.g_law_draw T.F_law_draw.kp T.b_law_draw .nil pass0 (pa_cons (pv 1) (pa_cons pe_int pa_nil))) pa_nil)) (blkOk_by (N := N_law) (sc := defScope s_law) (by decide +kernel)) (fun _ _ _ _ _ => pg_name (i := 2) sc_law.nd rfl (Or.inl rfl)) (fun _ _ _ _ _ => pts_nil) (fun _ _ _ _ _ => (pe_call (ok_law_word T) (hr.mono (by decide)) (by rfl) T.g_law_word T.F_law_word.kp T.b_law_word .nil pass0 (pa_cons (pv 1) pa_nil))))
        (pss_cons (ps_set (i := 4) sc_law.nd rfl (Or.inl rfl) (pe_join pe_str (pe_lc (own := [("_law_word_here", 12)]) (g := gName 12) rfl sc_law.nd (pi_list (pv 3)) (blkOk_by (N := N_law) (sc := defScope s_law) (by decide +kernel)) (fun _ _ _ _ _ => pg_name (i := 12) sc_law.nd rfl (Or.inl rfl)) (fun _ _ _ _ _ => pts_nil) (fun _ _ _ _ _ => (pe_ix (k_ix (K := K) rfl) (pv 12) pe_int (fun _ _ => rfl))))))
        (pss_cons (ps_set (i := 5) sc_law.nd rfl (Or.inl rfl) (pe_call (ok_law_read T) (hr.mono (by decide)) (by rfl) T.g_law_read T.F_law_read.kp T.b_law_read .nil pass0 (pa_cons (pv 4) pa_nil)))
        (pss_cons (ps_if (PW.pt (pw_or (pt_cmpR (op_neU hr.units) (pe_ix ix_seq (pv 5) pe_int (fun _ _ => rfl)) pe_str (nomark _)) (pw_or (pt_not (pt_val (pe_callB call_isi (by rfl) T.n_isinstance (by decide +kernel) (pa_cons (pe_ix ix_seq (pv 5) pe_int (fun _ _ => rfl)) (pa_cons (pe_bltn (v := .ty "tuple") (by rfl) T.n_tuple (by decide +kernel) rfl) pa_nil))))) (pw_or1 (pt_cmpR (op_neU hr.units) (pe_callB call_lenU (by rfl) T.n_len (by decide +kernel) (pa_cons (pe_ix ix_seq (pv 5) pe_int (fun _ _ => rfl)) pa_nil)) (pe_callB call_lenU (by rfl) T.n_len (by decide +kernel) (pa_cons (pv 3) pa_nil)) (nomark _)))))) (pss_one (ps_ret pe_bl)) pss_nil)
        (pss_cons (ps_for PassesOwn.never rfl (pi_range1 (by rfl) T.n_range (pa_cons (pe_callB call_lenU (by rfl) T.n_len (by decide +kernel) (pa_cons (pv 3) pa_nil)) pa_nil)) (pg_name (i := 2) sc_law.nd rfl (Or.inl rfl)) (pss_one (ps_if (pt_not (pt_val (pe_call (ok_law_pair T) (hr.mono (by decide)) (by rfl) T.g_law_pair T.F_law_pair.kp T.b_law_pair .nil pass0 (pa_cons (pe_ix ix_seq (pe_ix ix_seq (pv 3) (pv 2) (fun _ _ => rfl)) pe_int (fun _ _ => rfl)) (pa_cons (pe_ix ix_seq (pe_ix ix_seq (pv 5) pe_int (fun _ _ => rfl)) (pv 2) (fun _ _ => rfl)) pa_nil))))) (pss_one (ps_ret pe_bl)) pss_nil)))
        (pss_cons (ps_for PassesOwn.never rfl (pi_range1 (by rfl) T.n_range (pa_cons (pe_op op_addU (pe_callB call_lenU (by rfl) T.n_len (by decide +kernel) (pa_cons (pv 4) pa_nil)) pe_int) pa_nil)) (pg_name (i := 6) sc_law.nd rfl (Or.inl rfl)) (pss_one (ps_if (pt_not (pt_val (pe_call (ok_law_holds T) hr (by rfl) T.g_law_holds T.F_law_holds.kp T.b_law_holds .nil pass0 (pa_cons (pe_slice sl_U (pv 4) po_none (po_some (pv 6))) pa_nil)))) (pss_one (ps_ret pe_bl)) pss_nil)))
        (pss_cons (ps_set (i := 7) sc_law.nd rfl (Or.inl rfl) (pv 4))
        (pss_cons (ps_for PassesOwn.never rfl (pi_range1 (by rfl) T.n_range (pa_cons pe_int pa_nil)) (pg_name (i := 8) sc_law.nd rfl (Or.inl rfl)) (pss_cons (ps_set (i := 7) sc_law.nd rfl (Or.inl rfl) (pe_call (ok_law_bent T) (hr.mono (by decide)) (by rfl) T.g_law_bent T.F_law_bent.kp T.b_law_bent .nil pass0 (pa_cons (pv 1) (pa_cons (pv 4) pa_nil))))
        (pss_one (ps_if (pt_not (pt_val (pe_call (ok_law_holds T) hr (by rfl) T.g_law_holds T.F_law_holds.kp T.b_law_holds .nil pass0 (pa_cons (pv 7) pa_nil)))) (pss_one (ps_ret pe_bl)) pss_nil))))
        (pss_cons (ps_set (i := 9) sc_law.nd rfl (Or.inl rfl) (pe_lst (pa_cons pe_str (pa_cons pe_str (pa_cons pe_str (pa_cons pe_str (pa_cons pe_str (pa_cons pe_str (pa_cons pe_str (pa_cons pe_str (pa_cons pe_str (pa_cons pe_str pa_nil))))))))))))
        (pss_cons (ps_set (i := 9) sc_law.nd rfl (Or.inl rfl) (pe_op op_addU (pv 9) (pe_lst (pa_cons pe_str (pa_cons pe_str (pa_cons pe_str (pa_cons pe_str pa_nil)))))))
        (pss_cons (ps_for PassesOwn.never rfl (pi_list (pe_lst (pa_cons (pe_ix ix_seq (pv 9) (pe_call (ok_law_draw T) (hr.mono (by decide)) (by rfl) T.g_law_draw T.F_law_draw.kp T.b_law_draw .nil pass0 (pa_cons (pv 1) (pa_cons pe_int pa_nil))) (fun _ _ => rfl)) (pa_cons (pe_ix ix_seq (pv 9) (pe_call (ok_law_draw T) (hr.mono (by decide)) (by rfl) T.g_law_draw T.F_law_draw.kp T.b_law_draw .nil pass0 (pa_cons (pv 1) (pa_cons pe_int pa_nil))) (fun _ _ => rfl)) (pa_cons (pe_ix ix_seq (pv 9) (pe_op op_addU pe_int (pe_call (ok_law_draw T) (hr.mono (by decide)) (by rfl) T.g_law_draw T.F_law_draw.kp T.b_law_draw .nil pass0 (pa_cons (pv 1) (pa_cons pe_int pa_nil)))) (fun _ _ => rfl)) pa_nil))))) (pg_name (i := 10) sc_law.nd rfl (Or.inl rfl)) (pss_one (ps_if (PW.pt (pw_or (pt_not (pt_val (pe_call (ok_law_holds T) hr (by rfl) T.g_law_holds T.F_law_holds.kp T.b_law_holds .nil pass0 (pa_cons (pv 10) pa_nil)))) (pw_or (pt_not (pt_val (pe_call (ok_law_holds T) hr (by rfl) T.g_law_holds T.F_law_holds.kp T.b_law_holds .nil pass0 (pa_cons (pe_op op_addU (pe_op op_addU (pv 10) pe_str) (pe_slice sl_U (pv 4) po_none (po_some pe_int))) pa_nil)))) (pw_or1 (pt_not (pt_val (pe_call (ok_law_places T) (hr.mono (by decide)) (by rfl) T.g_law_places T.F_law_places.kp T.b_law_places .nil pass0 (pa_cons (pv 10) pa_nil)))))))) (pss_one (ps_ret pe_bl)) pss_nil)))
        (pss_cons (ps_if (PW.pt (pw_or (pt_not (pt_val (pe_call (ok_law_places T) (hr.mono (by decide)) (by rfl) T.g_law_places T.F_law_places.kp T.b_law_places .nil pass0 (pa_cons (pe_slice sl_U (pv 4) po_none (po_some pe_int)) pa_nil)))) (pw_or1 (pt_not (pt_val (pe_call (ok_law_places T) (hr.mono (by decide)) (by rfl) T.g_law_places T.F_law_places.kp T.b_law_places .nil pass0 (pa_cons (pe_slice sl_U (pv 7) po_none (po_some pe_int)) pa_nil))))))) (pss_one (ps_ret pe_bl)) pss_nil)
        (pss_cons (ps_set (i := 11) sc_law.nd rfl (Or.inl rfl) (pe_call (ok_law_text T) (hr.mono (by decide)) (by rfl) T.g_law_text T.F_law_text.kp T.b_law_text .nil pass0 (pa_cons (pv 1) (pa_cons (pe_call (ok_law_draw T) (hr.mono (by decide)) (by rfl) T.g_law_draw T.F_law_draw.kp T.b_law_draw .nil pass0 (pa_cons (pv 1) (pa_cons pe_int pa_nil))) pa_nil))))
        (pss_cons (ps_if (PW.pt (pw_or (pt_not (pt_val (pe_call (ok_law_quotes T) (hr.mono (by decide)) (by rfl) T.g_law_quotes T.F_law_quotes.kp T.b_law_quotes .nil pass0 (pa_cons (pv 11) (pa_cons pe_str (pa_cons pe_str pa_nil)))))) (pw_or1 (pt_not (pt_val (pe_call (ok_law_quotes T) (hr.mono (by decide)) (by rfl) T.g_law_quotes T.F_law_quotes.kp T.b_law_quotes .nil pass0 (pa_cons (pv 11) (pa_cons (pe_call (ok_law_text T) (hr.mono (by decide)) (by rfl) T.g_law_text T.F_law_text.kp T.b_law_text .nil pass0 (pa_cons (pv 1) (pa_cons pe_int pa_nil))) (pa_cons (pe_call (ok_law_text T) (hr.mono (by decide)) (by rfl) T.g_law_text T.F_law_text.kp T.b_law_text .nil pass0 (pa_cons (pv 1) (pa_cons pe_int pa_nil))) pa_nil))))))))) (pss_one (ps_ret pe_bl)) pss_nil)
        (pss_cons (ps_if (pt_cmpR (op_eqU hr.units) (pe_call (ok_law_draw T) (hr.mono (by decide)) (by rfl) T.g_law_draw T.F_law_draw.kp T.b_law_draw .nil pass0 (pa_cons (pv 1) (pa_cons pe_int pa_nil))) pe_int (nomark _)) (pss_cons (ps_set (i := 11) sc_law.nd rfl (Or.inl rfl) (pe_call (ok_law_text T) (hr.mono (by decide)) (by rfl) T.g_law_text T.F_law_text.kp T.b_law_text .nil pass0 (pa_cons (pv 1) (pa_cons (pe_op op_addU pe_int (pe_call (ok_law_draw T) (hr.mono (by decide)) (by rfl) T.g_law_draw T.F_law_draw.kp T.b_law_draw .nil pass0 (pa_cons (pv 1) (pa_cons pe_int pa_nil)))) pa_nil))))
        (pss_one (ps_ret (pe_and (pe_call (ok_law_quotes T) (hr.mono (by decide)) (by rfl) T.g_law_quotes T.F_law_quotes.kp T.b_law_quotes .nil pass0 (pa_cons (pv 11) (pa_cons pe_str (pa_cons pe_str pa_nil)))) (pe_one (pe_call (ok_law_holds T) hr (by rfl) T.g_law_holds T.F_law_holds.kp T.b_law_holds .nil pass0 (pa_cons (pe_op op_addU (pe_op op_addU pe_str (pe_call (ok_law_quoted T) (hr.mono (by decide)) (by rfl) T.g_law_quoted T.F_law_quoted.kp T.b_law_quoted .nil pass0 (pa_cons (pv 11) pa_nil))) pe_str) pa_nil))))))) pss_nil)
        (pss_one (ps_ret pe_bl)))))))))))))))))), ?_⟩
    walk_at "rd"
    refine ⟨sc, ns, rfl, hS, fun a H1 e1 ha s1 => ?_⟩
    walk_at "rd"
    refine ⟨a, 7, rfl, s1, by decide, fun n H2 hn D2 => ?_⟩
    walk_at "rd"
    refine l_lcR (by omega) (by omega) (fun C i H3 => Drw (cell a) H2 H3 ∧ ∃ (xs : List V) (l : List W3), H3 C = some (.lst xs) ∧ P2 (D3 H3) xs l ∧ Good3 l ∧ xs.length = i) (fun C hC => ⟨(Drw.refl D2.st).new hC, [], [], upd_same, .nil, (fun _ h => nomatch h), rfl⟩) (fun C i H3 hC hi hP => ?_) (fun C H3 hC hP => ?_)
    · obtain ⟨Dx, xs, l, gC, hp, hg, hl⟩ := hP
      have na := (cell a).fresh D2.st hC
      walk_at "rd"
      refine ⟨rfl, ?_⟩
      walk_at "rd"
      refine ⟨a, rfl, Dx.st, fun p q t v w H4 D4 gw g1 g2 => ?_⟩
      have gC4 := D4.at na gC
      have tk := (cell_tk Dx.st D4).trans (Tk.put (o := .lst (xs ++ [.ref p])) gC4)
      refine ⟨_, gC4, by rw [hl]; exact Nat.lt_of_le_of_lt (show i ≤ 20 by omega) (by decide), (Dx.trans D4).put hC na, xs ++ [.ref p], l ++ [(t, v, w)], upd_same, (p2_imm tk hp).snoc ⟨p, q, rfl, Tk.put gC4 _ _ g1, Tk.put gC4 _ _ g2⟩, fun x hx => ?_, by rw [List.length_append, hl]; rfl⟩
      rcases List.mem_append.mp hx with h | h
      · exact hg x h
      · rw [List.mem_singleton.mp h]
        exact gw
    · obtain ⟨Dx, xs, l, gC, hp, hg, hl⟩ := hP
      rw [Int.toNat_natCast] at hl
      have xl := hp.len
      have DD := D2.trans Dx
      have naC := (cell a).fresh D2.st hC
      walk_at "rd"
      refine ⟨⟨_, rfl⟩, ?_⟩
      walk_at "rd"
      refine l_lcL (sqL gC) (fun D i H4 => Ex H3 H4 ∧ H4 D = some (.lst ((l.take i).map fun x => V.str x.2.2))) (fun D hD => ⟨Same.new (Same.refl _) hD, upd_same⟩) (fun D i H4 h => sqL (h.1 _ _ gC)) (fun D i x H4 hD hx hP => ?_) (fun D H4 hD hP => ?_)
      · obtain ⟨e4, gD⟩ := hP
        obtain ⟨b, hb, p, q, rfl, g1, g2⟩ := hp.get hx
        walk_at "rd"
        refine ⟨rfl, ?_⟩
        walk_at "rd"
        refine r_ixT (sqT (e4 _ _ g1)) (atI_nat (j := 1) rfl) ?_
        refine ⟨_, gD, by rw [List.length_map]; exact Nat.lt_of_le_of_lt (show (l.take i).length ≤ 20 by rw [List.length_take]; omega) (by decide), Same.mut e4 hD, ?_⟩
        rw [upd_same, List.take_add_one, hb, List.map_append]
        rfl
      · obtain ⟨e4, gD⟩ := hP
        rw [List.take_of_length_le (by omega)] at gD
        obtain ⟨J, eJ⟩ : ∃ J, J = Txt.join (Str.ofString " ") (l.map fun x => x.2.2) := ⟨_, rfl⟩
        have eJ2 : J = Str.join ⟨#[32]⟩ (l.map fun x => x.2.2) := by
          rw [eJ, show Str.ofString " " = ⟨#[32]⟩ by decide +kernel]
          exact eq_of_beq (PyProof.Rows.join_plain_closes _ _)
        have sl := sum_le hg
        have ll : l.length ≤ 6 := by omega
        have Jl : J.length ≤ 126 := by
          have := join_len ⟨#[32]⟩ (l.map fun x => x.2.2)
          rw [← eJ2, List.length_map, show (⟨#[32]⟩ : Str).length = 1 from rfl] at this
          omega
        have hJ : Line J (.words (l.map fun x => (x.1, x.2.1))) := by rw [eJ2]; exact line_join l hg
        refine ⟨Str.ofString " ", D, l.map fun x => x.2.2, rfl, rfl, .inl (sqL (by rw [List.map_map]; exact gD)), (by
          rw [List.length_map, show (Str.ofString " ").length = 1 by decide +kernel]
          omega), ?_⟩
        rw [← eJ]
        have D4 := DD.then e4
        have gC := e4 _ _ gC
        have hp := p2_imm (Tk.ex e4) hp
        have Js : J.length ≤ sizeLine := by rw [sizeLine_eq]; omega
        walk_at "rd"
        refine ⟨J, rfl, by omega, fun l' hl' p L ys H5 e5 gp gL hq => ?_, fun k hk => absurd (line_one hJ hk) (fun h => nomatch h)⟩
        have el := line_one hJ hl'
        cases el
        have D5 := D4.then e5
        have gC := e5 _ _ gC
        have hp := p2_imm (Tk.ex e5) hp
        have yl := hq.len
        rw [List.length_map] at yl
        walk_at "rd"
        refine r_ixT (sqT gp) (atI_nat (j := 0) rfl) ?_
        walk_at "rd"
        refine r_ixT (sqT gp) (atI_nat (j := 1) rfl) ?_
        walk_at "rd"
        refine r_isi (b := true) (.base (.tup gL)) (by decide +kernel) ?_
        walk_at "rd"
        refine r_ixT (sqT gp) (atI_nat (j := 1) rfl) ?_
        walk_at "rd"
        refine r_lenT (sqT gL) ?_
        walk_at "rd"
        refine r_lenL (sqL gC) ?_
        rw [yl, xl]
        walk_at "rd"
        refine r_iteN (fun h => absurd rfl h) (fun _ => ?_)
        walk_at "rd"
        refine r_lenL (sqL gC) ?_
        walk_at "rd"
        refine l_R (by omega) (by omega) (fun i σ H' => ∃ y2, σ = [some (.ref sc), some (.ref a), y2, some (.ref C), some (.str J), some (.ref p), none, none, none, none, none, none, none] ∧ Ex H5 H') ⟨_, rfl, Same.refl _⟩ (fun i σ H' hi hP => ?_) (fun σ H6 hP => ?_)
        · obtain ⟨y2, rfl, e6⟩ := hP
          obtain ⟨x, hx⟩ : ∃ x, xs[i]? = some x := ⟨_, List.getElem?_eq_getElem (by omega)⟩
          obtain ⟨wd, hwd, px, qx, rfl, g1, g2⟩ := hp.get hx
          obtain ⟨y, hy, qy, rfl, g3⟩ := hq.get' (show (l.map fun x => (x.1, x.2.1))[i]? = some (wd.1, wd.2.1) by rw [List.getElem?_map, hwd]; rfl)
          have sv := (hg wd (List.mem_of_getElem? hwd)).2.2.1
          walk_at "rd"
          refine r_ixL (sqL (e6 _ _ gC)) (atI_nat hx) ?_
          walk_at "rd"
          refine r_ixT (sqT (e6 _ _ g1)) (atI_nat (j := 0) rfl) ?_
          walk_at "rd"
          refine r_ixT (sqT (e6 _ _ gp)) (atI_nat (j := 1) rfl) ?_
          walk_at "rd"
          refine r_ixT (sqT (e6 _ _ gL)) (atI_nat hy) ?_
          walk_at "rd"
          refine ⟨.non, .non, _, _, qx, qy, rfl, e6 _ _ g2, e6 _ _ g3, .inl ⟨_, rfl⟩, sv, ?_⟩
          walk_at "rd"
          exact ⟨_, rfl, e6⟩
        · obtain ⟨y2, rfl, e6⟩ := hP
          clear hp hq hg hl' hJ gL gp
          have D6 := D5.then e6
          walk_at "rd"
          refine r_lenS Js ?_
          walk_at "rd"
          refine l_R (by omega) (by omega) (fun i σ H' => ∃ y6, σ = [some (.ref sc), some (.ref a), y2, some (.ref C), some (.str J), some (.ref p), y6, none, none, none, none, none, none] ∧ Ex H6 H') ⟨_, rfl, Same.refl _⟩ (fun i σ H' hi hP => ?_) (fun σ H7 hP => ?_)
          · obtain ⟨y6, rfl, e7⟩ := hP
            have cl := cut_len J none (some ((i : Nat) : Int))
            walk_at "rd"
            refine r_slS Js ?_
            walk_at "rd"
            refine ⟨_, rfl, by omega, fun H8 e8 => ?_⟩
            walk_at "rd"
            exact ⟨_, rfl, e7.trans e8⟩
          · obtain ⟨y6, rfl, e7⟩ := hP
            have D7 := D6.then e7
            walk_at "rd"
            refine l_R (by omega) (by omega) (fun i σ H' => ∃ z y8, σ = [some (.ref sc), some (.ref a), y2, some (.ref C), some (.str J), some (.ref p), y6, some (.str z), y8, none, none, none, none] ∧ z.length ≤ 1000 ∧ Stt H' a) ⟨_, _, rfl, by omega, D7.st⟩ (fun i σ H' hi hP => ?_) (fun σ H8 hP => ?_)
            · obtain ⟨z, y8, rfl, hz, s8⟩ := hP
              walk_at "rd"
              refine ⟨a, J, rfl, s8, by omega, fun o H9 D9 ol => ?_⟩
              walk_at "rd"
              refine ⟨o, rfl, by omega, fun H10 e10 => ?_⟩
              walk_at "rd"
              exact ⟨_, _, rfl, by omega, D9.st.up e10⟩
            · obtain ⟨z, y8, rfl, hz, s8⟩ := hP
              walk_at "rd"
              obtain ⟨xs1, f1, m1, t1⟩ : ∃ xs, xs = [V.str (Str.ofString "012"), .str (Str.ofString "1234567890"), .str (Str.ofString "abcdefghijklm"), .str (Str.ofString "abcdefghijkl"), .str (Str.ofString "123456789"), .str (Str.ofString "\"\\a\""), .str (Str.ofString "a  b"), .str (Str.ofString "\""), .str (Str.ofString "0 0"), .str (Str.ofString "x,")] ∧ xs.length = 10 ∧ ∀ v ∈ xs, Sh v := ⟨_, rfl, rfl, by
                repeat (refine List.forall_mem_cons.mpr ⟨⟨_, rfl, by decide +kernel⟩, ?_⟩)
                exact fun _ h => nomatch h⟩
              rw [← f1]
              refine r_small (by omega) fun p1 n1 => ?_
              obtain ⟨G1, eG1, x1, g1⟩ := new1 n1 (.lst xs1)
              rw [← eG1]
              walk_at "rd"
              obtain ⟨xs2, f2, m2, t2⟩ : ∃ xs, xs = [V.str (Str.ofString "\"a\nb\""), .str (Str.ofString "7\n"), .str (Str.ofString "\"\n"), .str (Str.ofString "\"\\")] ∧ xs.length = 4 ∧ ∀ v ∈ xs, Sh v := ⟨_, rfl, rfl, by
                repeat (refine List.forall_mem_cons.mpr ⟨⟨_, rfl, by decide +kernel⟩, ?_⟩)
                exact fun _ h => nomatch h⟩
              rw [← f2]
              refine r_small (by omega) fun p2 n2 => ?_
              obtain ⟨G2, eG2, x2, g2⟩ := new1 n2 (.lst xs2)
              rw [← eG2]
              walk_at "rd"
              refine r_addL (x2 _ _ g1) g2 (by rw [sizeLine_eq]; omega) fun p3 n3 => ?_
              obtain ⟨G3, eG3, x3, g3⟩ := new1 n3 (.lst (xs1 ++ xs2))
              rw [← eG3]
              obtain ⟨ws, f3, m3, t3⟩ : ∃ ws, ws = xs1 ++ xs2 ∧ ws.length = 14 ∧ ∀ v ∈ ws, Sh v := ⟨_, rfl, by rw [List.length_append]; omega, fun v hv => (List.mem_append.mp hv).elim (t1 v) (t2 v)⟩
              rw [← f3] at g3
              have s9 : Stt G3 a := ((s8.up x1).up x2).up x3
              have na3 : ¬ (cell a).A p3 := (cell a).fresh ((s8.up x1).up x2) n3
              have get : ∀ d : Nat, d < 14 → ∃ z, ws[d]? = some (.str z) ∧ z.length ≤ 20 := fun d hd => by
                have hd : d < ws.length := by omega
                obtain ⟨z, hz, zl⟩ := t3 _ (List.getElem_mem hd)
                exact ⟨z, by rw [List.getElem?_eq_getElem hd, hz], zl⟩
              walk_at "rd"
              refine ⟨a, 10, rfl, s9, by decide, fun d1 K1 h1 D1 => ?_⟩
              obtain ⟨w1, a1, b1⟩ := get d1 (by omega)
              walk_at "rd"
              refine r_ixL (sqL (D1.at na3 g3)) (atI_nat a1) ?_
              walk_at "rd"
              refine ⟨a, 14, rfl, D1.st, by decide, fun d2 K2 h2 D2 => ?_⟩
              obtain ⟨w2, a2, b2⟩ := get d2 (by omega)
              walk_at "rd"
              refine r_ixL (sqL (D2.at na3 (D1.at na3 g3))) (atI_nat a2) ?_
              walk_at "rd"
              refine ⟨a, 4, rfl, D2.st, by decide, fun d3 K3 h3 D3 => ?_⟩
              obtain ⟨w3, a3, b3⟩ := get (10 + d3) (by omega)
              walk_at "rd"
              refine r_ixL (sqL (D3.at na3 (D2.at na3 (D1.at na3 g3)))) (show atI ws ((10 : Int) + (d3 : Nat)) = _ by rw [show ((10 : Int) + (d3 : Nat)) = ((10 + d3 : Nat) : Int) by omega]; exact atI_nat a3) ?_
              walk_at "rd"
              refine r_small nsz fun p4 n4 => ?_
              obtain ⟨G4, eG4, x4, g4⟩ := new1 n4 (.lst [.str w1, .str w2, .str w3])
              rw [← eG4]
              have t4 : ∀ v ∈ [V.str w1, .str w2, .str w3], Sh v := by
                repeat (refine List.forall_mem_cons.mpr ⟨⟨_, rfl, by omega⟩, ?_⟩)
                exact fun _ h => nomatch h
              have s10 : Stt G4 a := D3.st.up x4
              walk_at "rd"
              refine l_L (sqL g4) (fun i σ H' => ∃ y10, σ = [some (.ref sc), some (.ref a), y2, some (.ref C), some (.str J), some (.ref p), y6, some (.str z), y8, some (.ref p3), y10, none, none] ∧ Ex G4 H') ⟨_, rfl, Same.refl _⟩ (fun i σ H' h => ?_) (fun i x σ H' hx hP => ?_) (fun σ K5 hP => ?_)
              · obtain ⟨_, _, e⟩ := h
                exact sqL (e _ _ g4)
              · obtain ⟨y10, rfl, e⟩ := hP
                obtain ⟨th, rfl, tl⟩ := t4 x (List.mem_of_getElem? hx)
                have l2 : (Str.ofString " ").length = 1 := by decide +kernel
                have cl := cut_len J none (some 9)
                walk_at "rd"
                refine ⟨th, rfl, by omega, fun K6 e6 => ?_⟩
                walk_at "rd"
                refine r_addS (by rw [l2, sizeLine_eq]; omega) ?_
                walk_at "rd"
                refine r_slS Js ?_
                refine r_addS (by rw [app_len, l2, sizeLine_eq]; omega) ?_
                walk_at "rd"
                refine ⟨_, rfl, by rw [app_len, app_len]; omega, fun K7 e7 => ?_⟩
                walk_at "rd"
                refine ⟨th, rfl, by omega, fun K8 e8 => ?_⟩
                walk_at "rd"
                exact ⟨_, rfl, e.trans (e6.trans (e7.trans e8))⟩
              · obtain ⟨y10, rfl, e⟩ := hP
                have s11 : Stt K5 a := s10.up e
                clear g4 g3 g2 g1 get t4
                walk_at "rd"
                have c24 := cut_len J none (some 24)
                have z24 := cut_len z none (some 24)
                refine r_slS Js ?_
                walk_at "rd"
                refine ⟨_, rfl, by omega, fun K6 e6 => ?_⟩
                walk_at "rd"
                refine r_slS (by rw [sizeLine_eq]; omega) ?_
                walk_at "rd"
                refine ⟨_, rfl, by omega, fun K7 e7 => ?_⟩
                walk_at "rd"
                refine ⟨a, 10, rfl, (s11.up e6).up e7, by decide, fun n8 K8 h8 D8 => ?_⟩
                walk_at "rd"
                refine ⟨a, n8, rfl, D8.st, by omega, fun tx K9 D9 txl => ?_⟩
                have l0 : (Str.ofString "").length ≤ 10 := by decide +kernel
                walk_at "rd"
                refine ⟨tx, _, _, rfl, by omega, l0, l0, fun K10 e10 => ?_⟩
                walk_at "rd"
                refine ⟨a, 3, rfl, D9.st.up e10, by decide, fun u1 K11 D11 u1l => ?_⟩
                walk_at "rd"
                refine ⟨a, 3, rfl, D11.st, by decide, fun u2 K12 D12 u2l => ?_⟩
                walk_at "rd"
                refine ⟨tx, u1, u2, rfl, by omega, by omega, by omega, fun K13 e13 => ?_⟩
                walk_at "rd"
                refine ⟨a, 16, rfl, D12.st.up e13, by decide, fun n14 K14 h14 D14 => ?_⟩
                walk_at "rd"
                refine r_ite (fun _ => ?_) (fun _ => ?_)
                · walk_at "rd"
                  refine ⟨a, 1401, rfl, D14.st, by decide, fun n15 K15 h15 D15 => ?_⟩
                  walk_at "rd"
                  refine ⟨a, 500 + n15, rfl, D15.st, by omega, fun lg K16 D16 lgl => ?_⟩
                  have la : (Str.ofString "a ").length = 2 := by decide +kernel
                  have l7 : (Str.ofString " 7").length = 2 := by decide +kernel
                  have ql := quote_len lg
                  have el := esc_le lg
                  walk_at "rd"
                  refine ⟨lg, _, _, rfl, by omega, by omega, by omega, fun K17 e17 => ?_⟩
                  walk_at "rd"
                  refine ⟨lg, rfl, by omega, ?_⟩
                  walk_at "rd"
                  refine r_addS (by rw [la, sizeLine_eq]; omega) ?_
                  walk_at "rd"
                  refine r_addS (by rw [app_len, la, l7, sizeLine_eq]; omega) ?_
                  walk_at "rd"
                  refine ⟨_, rfl, by rw [app_len, app_len]; omega, fun K18 e18 => ?_⟩
                  exact q K18
                · walk_at "rd"
                  exact q K14
end
theorem all_mk {l : PySem.W.OpenLaw} {w : World} {K : PySem.W.Frag} {h : Heap} {mg : Str → Option Value} {fa : Addr} (X : K.In h) (G : h.Ns mainGlobals mg) (hfa : mg "law" = some (.ref fa))
    {f_quote : Addr} {od_quote an_quote : Option Addr} {sl_quote : Array (Option Value)} {oc_quote kV_quote dc_quote pm_quote cd_quote ct_quote : Value}
    {f_sign_at : Addr} {od_sign_at an_sign_at : Option Addr} {sl_sign_at : Array (Option Value)} {oc_sign_at kV_sign_at dc_sign_at pm_sign_at cd_sign_at ct_sign_at : Value}
    {f_escaped : Addr} {od_escaped an_escaped : Option Addr} {sl_escaped : Array (Option Value)} {oc_escaped kV_escaped dc_escaped pm_escaped cd_escaped ct_escaped : Value}
    {f_unquote : Addr} {od_unquote an_unquote : Option Addr} {sl_unquote : Array (Option Value)} {oc_unquote kV_unquote dc_unquote pm_unquote cd_unquote ct_unquote : Value}
    {f_number_at : Addr} {od_number_at an_number_at : Option Addr} {sl_number_at : Array (Option Value)} {oc_number_at kV_number_at dc_number_at pm_number_at cd_number_at ct_number_at : Value}
    {f_name_at : Addr} {od_name_at an_name_at : Option Addr} {sl_name_at : Array (Option Value)} {oc_name_at kV_name_at dc_name_at pm_name_at cd_name_at ct_name_at : Value}
    {f_word_at : Addr} {od_word_at an_word_at : Option Addr} {sl_word_at : Array (Option Value)} {oc_word_at kV_word_at dc_word_at pm_word_at cd_word_at ct_word_at : Value}
    {f_placed_words : Addr} {od_placed_words an_placed_words : Option Addr} {sl_placed_words : Array (Option Value)} {oc_placed_words kV_placed_words dc_placed_words pm_placed_words cd_placed_words ct_placed_words : Value}
    {f_words_of : Addr} {od_words_of an_words_of : Option Addr} {sl_words_of : Array (Option Value)} {oc_words_of kV_words_of dc_words_of pm_words_of cd_words_of ct_words_of : Value}
    {f_law_start : Addr} {od_law_start an_law_start : Option Addr} {sl_law_start : Array (Option Value)} {oc_law_start kV_law_start dc_law_start pm_law_start cd_law_start ct_law_start : Value}
    {f_law_draw : Addr} {od_law_draw an_law_draw : Option Addr} {sl_law_draw : Array (Option Value)} {oc_law_draw kV_law_draw dc_law_draw pm_law_draw cd_law_draw ct_law_draw : Value}
    {f_law_small : Addr} {od_law_small an_law_small : Option Addr} {sl_law_small : Array (Option Value)} {oc_law_small kV_law_small dc_law_small pm_law_small cd_law_small ct_law_small : Value}
    {f_law_signs : Addr} {od_law_signs an_law_signs : Option Addr} {sl_law_signs : Array (Option Value)} {oc_law_signs kV_law_signs dc_law_signs pm_law_signs cd_law_signs ct_law_signs : Value}
    {f_law_text : Addr} {od_law_text an_law_text : Option Addr} {sl_law_text : Array (Option Value)} {oc_law_text kV_law_text dc_law_text pm_law_text cd_law_text ct_law_text : Value}
    {f_law_quoted : Addr} {od_law_quoted an_law_quoted : Option Addr} {sl_law_quoted : Array (Option Value)} {oc_law_quoted kV_law_quoted dc_law_quoted pm_law_quoted cd_law_quoted ct_law_quoted : Value}
    {f_law_word : Addr} {od_law_word an_law_word : Option Addr} {sl_law_word : Array (Option Value)} {oc_law_word kV_law_word dc_law_word pm_law_word cd_law_word ct_law_word : Value}
    {f_law_begun : Addr} {od_law_begun an_law_begun : Option Addr} {sl_law_begun : Array (Option Value)} {oc_law_begun kV_law_begun dc_law_begun pm_law_begun cd_law_begun ct_law_begun : Value}
    {f_law_on : Addr} {od_law_on an_law_on : Option Addr} {sl_law_on : Array (Option Value)} {oc_law_on kV_law_on dc_law_on pm_law_on cd_law_on ct_law_on : Value}
    {f_law_made : Addr} {od_law_made an_law_made : Option Addr} {sl_law_made : Array (Option Value)} {oc_law_made kV_law_made dc_law_made pm_law_made cd_law_made ct_law_made : Value}
    {f_law_one : Addr} {od_law_one an_law_one : Option Addr} {sl_law_one : Array (Option Value)} {oc_law_one kV_law_one dc_law_one pm_law_one cd_law_one ct_law_one : Value}
    {f_law_words : Addr} {od_law_words an_law_words : Option Addr} {sl_law_words : Array (Option Value)} {oc_law_words kV_law_words dc_law_words pm_law_words cd_law_words ct_law_words : Value}
    {f_law_is : Addr} {od_law_is an_law_is : Option Addr} {sl_law_is : Array (Option Value)} {oc_law_is kV_law_is dc_law_is pm_law_is cd_law_is ct_law_is : Value}
    {f_law_pair : Addr} {od_law_pair an_law_pair : Option Addr} {sl_law_pair : Array (Option Value)} {oc_law_pair kV_law_pair dc_law_pair pm_law_pair cd_law_pair ct_law_pair : Value}
    {f_law_read : Addr} {od_law_read an_law_read : Option Addr} {sl_law_read : Array (Option Value)} {oc_law_read kV_law_read dc_law_read pm_law_read cd_law_read ct_law_read : Value}
    {f_law_holds : Addr} {od_law_holds an_law_holds : Option Addr} {sl_law_holds : Array (Option Value)} {oc_law_holds kV_law_holds dc_law_holds pm_law_holds cd_law_holds ct_law_holds : Value}
    {f_law_reader : Addr} {od_law_reader an_law_reader : Option Addr} {sl_law_reader : Array (Option Value)} {oc_law_reader kV_law_reader dc_law_reader pm_law_reader cd_law_reader ct_law_reader : Value}
    {f_law_places : Addr} {od_law_places an_law_places : Option Addr} {sl_law_places : Array (Option Value)} {oc_law_places kV_law_places dc_law_places pm_law_places cd_law_places ct_law_places : Value}
    {f_law_quotes : Addr} {od_law_quotes an_law_quotes : Option Addr} {sl_law_quotes : Array (Option Value)} {oc_law_quotes kV_law_quotes dc_law_quotes pm_law_quotes cd_law_quotes ct_law_quotes : Value}
    {f_law_bent : Addr} {od_law_bent an_law_bent : Option Addr} {sl_law_bent : Array (Option Value)} {oc_law_bent kV_law_bent dc_law_bent pm_law_bent cd_law_bent ct_law_bent : Value}
    {f_law : Addr} {od_law an_law : Option Addr} {sl_law : Array (Option Value)} {oc_law kV_law dc_law pm_law cd_law ct_law : Value}
    {C_BadLine fi_BadLine N_BadLine : Addr} {nm_BadLine qn_BadLine : Str} {bs_BadLine su_BadLine : List Value} {sn_BadLine : List Str} {ab_BadLine : Bool} {col_BadLine : Option Bool} {dd_BadLine : Option Addr} {m0_BadLine m1_BadLine m2_BadLine m3_BadLine m5_BadLine : Option Value}
    {od_BadLine an_BadLine : Option Addr} {sl_BadLine : Array (Option Value)} {oc_BadLine kV_BadLine dc_BadLine pm_BadLine cd_BadLine ct_BadLine : Value}
    {B_BadLine_DeskError : Addr}
    {tk_DIGITS : Tok}
    {tk_SMALL_LETTERS : Tok}
    {tk_LONGEST_NAME : Tok}
    {tk_MOST_DIGITS : Tok}
    (a_quote : PySem.W.nsIn K mainGlobals "quote" = some (some (.ref f_quote)))
    (l_quote : K.lookup f_quote = some ⟨oc_quote, od_quote, .func (PySem.W.fnOf "quote" "quote" (defArgs s_quote) (defBody s_quote) (defScope s_quote) .none kV_quote dc_quote pm_quote an_quote cd_quote ct_quote), sl_quote⟩)
    (c_quote : PySem.W.codeIn K cd_quote "quote" = true)
    (k_quote : PySem.W.keepIn K (.ref f_quote) = true)
    (a_sign_at : PySem.W.nsIn K mainGlobals "sign_at" = some (some (.ref f_sign_at)))
    (l_sign_at : K.lookup f_sign_at = some ⟨oc_sign_at, od_sign_at, .func (PySem.W.fnOf "sign_at" "sign_at" (defArgs s_sign_at) (defBody s_sign_at) (defScope s_sign_at) .none kV_sign_at dc_sign_at pm_sign_at an_sign_at cd_sign_at ct_sign_at), sl_sign_at⟩)
    (c_sign_at : PySem.W.codeIn K cd_sign_at "sign_at" = true)
    (k_sign_at : PySem.W.keepIn K (.ref f_sign_at) = true)
    (a_escaped : PySem.W.nsIn K mainGlobals "escaped" = some (some (.ref f_escaped)))
    (l_escaped : K.lookup f_escaped = some ⟨oc_escaped, od_escaped, .func (PySem.W.fnOf "escaped" "escaped" (defArgs s_escaped) (defBody s_escaped) (defScope s_escaped) .none kV_escaped dc_escaped pm_escaped an_escaped cd_escaped ct_escaped), sl_escaped⟩)
    (c_escaped : PySem.W.codeIn K cd_escaped "escaped" = true)
    (k_escaped : PySem.W.keepIn K (.ref f_escaped) = true)
    (a_unquote : PySem.W.nsIn K mainGlobals "unquote" = some (some (.ref f_unquote)))
    (l_unquote : K.lookup f_unquote = some ⟨oc_unquote, od_unquote, .func (PySem.W.fnOf "unquote" "unquote" (defArgs s_unquote) (defBody s_unquote) (defScope s_unquote) .none kV_unquote dc_unquote pm_unquote an_unquote cd_unquote ct_unquote), sl_unquote⟩)
    (c_unquote : PySem.W.codeIn K cd_unquote "unquote" = true)
    (k_unquote : PySem.W.keepIn K (.ref f_unquote) = true)
    (a_number_at : PySem.W.nsIn K mainGlobals "number_at" = some (some (.ref f_number_at)))
    (l_number_at : K.lookup f_number_at = some ⟨oc_number_at, od_number_at, .func (PySem.W.fnOf "number_at" "number_at" (defArgs s_number_at) (defBody s_number_at) (defScope s_number_at) .none kV_number_at dc_number_at pm_number_at an_number_at cd_number_at ct_number_at), sl_number_at⟩)
    (c_number_at : PySem.W.codeIn K cd_number_at "number_at" = true)
    (k_number_at : PySem.W.keepIn K (.ref f_number_at) = true)
    (a_name_at : PySem.W.nsIn K mainGlobals "name_at" = some (some (.ref f_name_at)))
    (l_name_at : K.lookup f_name_at = some ⟨oc_name_at, od_name_at, .func (PySem.W.fnOf "name_at" "name_at" (defArgs s_name_at) (defBody s_name_at) (defScope s_name_at) .none kV_name_at dc_name_at pm_name_at an_name_at cd_name_at ct_name_at), sl_name_at⟩)
    (c_name_at : PySem.W.codeIn K cd_name_at "name_at" = true)
    (k_name_at : PySem.W.keepIn K (.ref f_name_at) = true)
    (a_word_at : PySem.W.nsIn K mainGlobals "word_at" = some (some (.ref f_word_at)))
    (l_word_at : K.lookup f_word_at = some ⟨oc_word_at, od_word_at, .func (PySem.W.fnOf "word_at" "word_at" (defArgs s_word_at) (defBody s_word_at) (defScope s_word_at) .none kV_word_at dc_word_at pm_word_at an_word_at cd_word_at ct_word_at), sl_word_at⟩)
    (c_word_at : PySem.W.codeIn K cd_word_at "word_at" = true)
    (k_word_at : PySem.W.keepIn K (.ref f_word_at) = true)
    (a_placed_words : PySem.W.nsIn K mainGlobals "placed_words" = some (some (.ref f_placed_words)))
    (l_placed_words : K.lookup f_placed_words = some ⟨oc_placed_words, od_placed_words, .func (PySem.W.fnOf "placed_words" "placed_words" (defArgs s_placed_words) (defBody s_placed_words) (defScope s_placed_words) .none kV_placed_words dc_placed_words pm_placed_words an_placed_words cd_placed_words ct_placed_words), sl_placed_words⟩)
    (c_placed_words : PySem.W.codeIn K cd_placed_words "placed_words" = true)
    (k_placed_words : PySem.W.keepIn K (.ref f_placed_words) = true)
    (a_words_of : PySem.W.nsIn K mainGlobals "words_of" = some (some (.ref f_words_of)))
    (l_words_of : K.lookup f_words_of = some ⟨oc_words_of, od_words_of, .func (PySem.W.fnOf "words_of" "words_of" (defArgs s_words_of) (defBody s_words_of) (defScope s_words_of) .none kV_words_of dc_words_of pm_words_of an_words_of cd_words_of ct_words_of), sl_words_of⟩)
    (c_words_of : PySem.W.codeIn K cd_words_of "words_of" = true)
    (k_words_of : PySem.W.keepIn K (.ref f_words_of) = true)
    (a_law_start : PySem.W.nsIn K mainGlobals "_law_start" = some (some (.ref f_law_start)))
    (l_law_start : K.lookup f_law_start = some ⟨oc_law_start, od_law_start, .func (PySem.W.fnOf "_law_start" "_law_start" (defArgs s_law_start) (defBody s_law_start) (defScope s_law_start) .none kV_law_start dc_law_start pm_law_start an_law_start cd_law_start ct_law_start), sl_law_start⟩)
    (c_law_start : PySem.W.codeIn K cd_law_start "_law_start" = true)
    (k_law_start : PySem.W.keepIn K (.ref f_law_start) = true)
    (a_law_draw : PySem.W.nsIn K mainGlobals "_law_draw" = some (some (.ref f_law_draw)))
    (l_law_draw : K.lookup f_law_draw = some ⟨oc_law_draw, od_law_draw, .func (PySem.W.fnOf "_law_draw" "_law_draw" (defArgs s_law_draw) (defBody s_law_draw) (defScope s_law_draw) .none kV_law_draw dc_law_draw pm_law_draw an_law_draw cd_law_draw ct_law_draw), sl_law_draw⟩)
    (c_law_draw : PySem.W.codeIn K cd_law_draw "_law_draw" = true)
    (k_law_draw : PySem.W.keepIn K (.ref f_law_draw) = true)
    (a_law_small : PySem.W.nsIn K mainGlobals "_law_small" = some (some (.ref f_law_small)))
    (l_law_small : K.lookup f_law_small = some ⟨oc_law_small, od_law_small, .func (PySem.W.fnOf "_law_small" "_law_small" (defArgs s_law_small) (defBody s_law_small) (defScope s_law_small) .none kV_law_small dc_law_small pm_law_small an_law_small cd_law_small ct_law_small), sl_law_small⟩)
    (c_law_small : PySem.W.codeIn K cd_law_small "_law_small" = true)
    (k_law_small : PySem.W.keepIn K (.ref f_law_small) = true)
    (a_law_signs : PySem.W.nsIn K mainGlobals "_law_signs" = some (some (.ref f_law_signs)))
    (l_law_signs : K.lookup f_law_signs = some ⟨oc_law_signs, od_law_signs, .func (PySem.W.fnOf "_law_signs" "_law_signs" (defArgs s_law_signs) (defBody s_law_signs) (defScope s_law_signs) .none kV_law_signs dc_law_signs pm_law_signs an_law_signs cd_law_signs ct_law_signs), sl_law_signs⟩)
    (c_law_signs : PySem.W.codeIn K cd_law_signs "_law_signs" = true)
    (k_law_signs : PySem.W.keepIn K (.ref f_law_signs) = true)
    (a_law_text : PySem.W.nsIn K mainGlobals "_law_text" = some (some (.ref f_law_text)))
    (l_law_text : K.lookup f_law_text = some ⟨oc_law_text, od_law_text, .func (PySem.W.fnOf "_law_text" "_law_text" (defArgs s_law_text) (defBody s_law_text) (defScope s_law_text) .none kV_law_text dc_law_text pm_law_text an_law_text cd_law_text ct_law_text), sl_law_text⟩)
    (c_law_text : PySem.W.codeIn K cd_law_text "_law_text" = true)
    (k_law_text : PySem.W.keepIn K (.ref f_law_text) = true)
    (a_law_quoted : PySem.W.nsIn K mainGlobals "_law_quoted" = some (some (.ref f_law_quoted)))
    (l_law_quoted : K.lookup f_law_quoted = some ⟨oc_law_quoted, od_law_quoted, .func (PySem.W.fnOf "_law_quoted" "_law_quoted" (defArgs s_law_quoted) (defBody s_law_quoted) (defScope s_law_quoted) .none kV_law_quoted dc_law_quoted pm_law_quoted an_law_quoted cd_law_quoted ct_law_quoted), sl_law_quoted⟩)
    (c_law_quoted : PySem.W.codeIn K cd_law_quoted "_law_quoted" = true)
    (k_law_quoted : PySem.W.keepIn K (.ref f_law_quoted) = true)
    (a_law_word : PySem.W.nsIn K mainGlobals "_law_word" = some (some (.ref f_law_word)))
    (l_law_word : K.lookup f_law_word = some ⟨oc_law_word, od_law_word, .func (PySem.W.fnOf "_law_word" "_law_word" (defArgs s_law_word) (defBody s_law_word) (defScope s_law_word) .none kV_law_word dc_law_word pm_law_word an_law_word cd_law_word ct_law_word), sl_law_word⟩)
    (c_law_word : PySem.W.codeIn K cd_law_word "_law_word" = true)
    (k_law_word : PySem.W.keepIn K (.ref f_law_word) = true)
    (a_law_begun : PySem.W.nsIn K mainGlobals "_law_begun" = some (some (.ref f_law_begun)))
    (l_law_begun : K.lookup f_law_begun = some ⟨oc_law_begun, od_law_begun, .func (PySem.W.fnOf "_law_begun" "_law_begun" (defArgs s_law_begun) (defBody s_law_begun) (defScope s_law_begun) .none kV_law_begun dc_law_begun pm_law_begun an_law_begun cd_law_begun ct_law_begun), sl_law_begun⟩)
    (c_law_begun : PySem.W.codeIn K cd_law_begun "_law_begun" = true)
    (k_law_begun : PySem.W.keepIn K (.ref f_law_begun) = true)
    (a_law_on : PySem.W.nsIn K mainGlobals "_law_on" = some (some (.ref f_law_on)))
    (l_law_on : K.lookup f_law_on = some ⟨oc_law_on, od_law_on, .func (PySem.W.fnOf "_law_on" "_law_on" (defArgs s_law_on) (defBody s_law_on) (defScope s_law_on) .none kV_law_on dc_law_on pm_law_on an_law_on cd_law_on ct_law_on), sl_law_on⟩)
    (c_law_on : PySem.W.codeIn K cd_law_on "_law_on" = true)
    (k_law_on : PySem.W.keepIn K (.ref f_law_on) = true)
    (a_law_made : PySem.W.nsIn K mainGlobals "_law_made" = some (some (.ref f_law_made)))
    (l_law_made : K.lookup f_law_made = some ⟨oc_law_made, od_law_made, .func (PySem.W.fnOf "_law_made" "_law_made" (defArgs s_law_made) (defBody s_law_made) (defScope s_law_made) .none kV_law_made dc_law_made pm_law_made an_law_made cd_law_made ct_law_made), sl_law_made⟩)
    (c_law_made : PySem.W.codeIn K cd_law_made "_law_made" = true)
    (k_law_made : PySem.W.keepIn K (.ref f_law_made) = true)
    (a_law_one : PySem.W.nsIn K mainGlobals "_law_one" = some (some (.ref f_law_one)))
    (l_law_one : K.lookup f_law_one = some ⟨oc_law_one, od_law_one, .func (PySem.W.fnOf "_law_one" "_law_one" (defArgs s_law_one) (defBody s_law_one) (defScope s_law_one) .none kV_law_one dc_law_one pm_law_one an_law_one cd_law_one ct_law_one), sl_law_one⟩)
    (c_law_one : PySem.W.codeIn K cd_law_one "_law_one" = true)
    (k_law_one : PySem.W.keepIn K (.ref f_law_one) = true)
    (a_law_words : PySem.W.nsIn K mainGlobals "_law_words" = some (some (.ref f_law_words)))
    (l_law_words : K.lookup f_law_words = some ⟨oc_law_words, od_law_words, .func (PySem.W.fnOf "_law_words" "_law_words" (defArgs s_law_words) (defBody s_law_words) (defScope s_law_words) .none kV_law_words dc_law_words pm_law_words an_law_words cd_law_words ct_law_words), sl_law_words⟩)
    (c_law_words : PySem.W.codeIn K cd_law_words "_law_words" = true)
    (k_law_words : PySem.W.keepIn K (.ref f_law_words) = true)
    (a_law_is : PySem.W.nsIn K mainGlobals "_law_is" = some (some (.ref f_law_is)))
    (l_law_is : K.lookup f_law_is = some ⟨oc_law_is, od_law_is, .func (PySem.W.fnOf "_law_is" "_law_is" (defArgs s_law_is) (defBody s_law_is) (defScope s_law_is) .none kV_law_is dc_law_is pm_law_is an_law_is cd_law_is ct_law_is), sl_law_is⟩)
    (c_law_is : PySem.W.codeIn K cd_law_is "_law_is" = true)
    (k_law_is : PySem.W.keepIn K (.ref f_law_is) = true)
    (a_law_pair : PySem.W.nsIn K mainGlobals "_law_pair" = some (some (.ref f_law_pair)))
    (l_law_pair : K.lookup f_law_pair = some ⟨oc_law_pair, od_law_pair, .func (PySem.W.fnOf "_law_pair" "_law_pair" (defArgs s_law_pair) (defBody s_law_pair) (defScope s_law_pair) .none kV_law_pair dc_law_pair pm_law_pair an_law_pair cd_law_pair ct_law_pair), sl_law_pair⟩)
    (c_law_pair : PySem.W.codeIn K cd_law_pair "_law_pair" = true)
    (k_law_pair : PySem.W.keepIn K (.ref f_law_pair) = true)
    (a_law_read : PySem.W.nsIn K mainGlobals "_law_read" = some (some (.ref f_law_read)))
    (l_law_read : K.lookup f_law_read = some ⟨oc_law_read, od_law_read, .func (PySem.W.fnOf "_law_read" "_law_read" (defArgs s_law_read) (defBody s_law_read) (defScope s_law_read) .none kV_law_read dc_law_read pm_law_read an_law_read cd_law_read ct_law_read), sl_law_read⟩)
    (c_law_read : PySem.W.codeIn K cd_law_read "_law_read" = true)
    (k_law_read : PySem.W.keepIn K (.ref f_law_read) = true)
    (a_law_holds : PySem.W.nsIn K mainGlobals "_law_holds" = some (some (.ref f_law_holds)))
    (l_law_holds : K.lookup f_law_holds = some ⟨oc_law_holds, od_law_holds, .func (PySem.W.fnOf "_law_holds" "_law_holds" (defArgs s_law_holds) (defBody s_law_holds) (defScope s_law_holds) .none kV_law_holds dc_law_holds pm_law_holds an_law_holds cd_law_holds ct_law_holds), sl_law_holds⟩)
    (c_law_holds : PySem.W.codeIn K cd_law_holds "_law_holds" = true)
    (k_law_holds : PySem.W.keepIn K (.ref f_law_holds) = true)
    (a_law_reader : PySem.W.nsIn K mainGlobals "_law_reader" = some (some (.ref f_law_reader)))
    (l_law_reader : K.lookup f_law_reader = some ⟨oc_law_reader, od_law_reader, .func (PySem.W.fnOf "_law_reader" "_law_reader" (defArgs s_law_reader) (defBody s_law_reader) (defScope s_law_reader) .none kV_law_reader dc_law_reader pm_law_reader an_law_reader cd_law_reader ct_law_reader), sl_law_reader⟩)
    (c_law_reader : PySem.W.codeIn K cd_law_reader "_law_reader" = true)
    (k_law_reader : PySem.W.keepIn K (.ref f_law_reader) = true)
    (a_law_places : PySem.W.nsIn K mainGlobals "_law_places" = some (some (.ref f_law_places)))
    (l_law_places : K.lookup f_law_places = some ⟨oc_law_places, od_law_places, .func (PySem.W.fnOf "_law_places" "_law_places" (defArgs s_law_places) (defBody s_law_places) (defScope s_law_places) .none kV_law_places dc_law_places pm_law_places an_law_places cd_law_places ct_law_places), sl_law_places⟩)
    (c_law_places : PySem.W.codeIn K cd_law_places "_law_places" = true)
    (k_law_places : PySem.W.keepIn K (.ref f_law_places) = true)
    (a_law_quotes : PySem.W.nsIn K mainGlobals "_law_quotes" = some (some (.ref f_law_quotes)))
    (l_law_quotes : K.lookup f_law_quotes = some ⟨oc_law_quotes, od_law_quotes, .func (PySem.W.fnOf "_law_quotes" "_law_quotes" (defArgs s_law_quotes) (defBody s_law_quotes) (defScope s_law_quotes) .none kV_law_quotes dc_law_quotes pm_law_quotes an_law_quotes cd_law_quotes ct_law_quotes), sl_law_quotes⟩)
    (c_law_quotes : PySem.W.codeIn K cd_law_quotes "_law_quotes" = true)
    (k_law_quotes : PySem.W.keepIn K (.ref f_law_quotes) = true)
    (a_law_bent : PySem.W.nsIn K mainGlobals "_law_bent" = some (some (.ref f_law_bent)))
    (l_law_bent : K.lookup f_law_bent = some ⟨oc_law_bent, od_law_bent, .func (PySem.W.fnOf "_law_bent" "_law_bent" (defArgs s_law_bent) (defBody s_law_bent) (defScope s_law_bent) .none kV_law_bent dc_law_bent pm_law_bent an_law_bent cd_law_bent ct_law_bent), sl_law_bent⟩)
    (c_law_bent : PySem.W.codeIn K cd_law_bent "_law_bent" = true)
    (k_law_bent : PySem.W.keepIn K (.ref f_law_bent) = true)
    (a_law : PySem.W.nsIn K mainGlobals "law" = some (some (.ref f_law)))
    (l_law : K.lookup f_law = some ⟨oc_law, od_law, .func (PySem.W.fnOf "law" "law" (defArgs s_law) (defBody s_law) (defScope s_law) .none kV_law dc_law pm_law an_law cd_law ct_law), sl_law⟩)
    (c_law : PySem.W.codeIn K cd_law "law" = true)
    (k_law : PySem.W.keepIn K (.ref f_law) = true)
    (aC_BadLine : PySem.W.nsIn K mainGlobals "BadLine" = some (some (.ref C_BadLine)))
    (xL_BadLine : K.lookup C_BadLine = some (excClassObj nm_BadLine qn_BadLine C_BadLine N_BadLine bs_BadLine [.ref B_BadLine_DeskError, .type "ValueError", .type "Exception", .type "BaseException", .type "object"] true sn_BadLine su_BadLine ab_BadLine col_BadLine dd_BadLine m0_BadLine m1_BadLine m2_BadLine m3_BadLine m5_BadLine "ValueError.__new__"))
    (sa_BadLine : PySem.W.findIn K (.ref C_BadLine) "__setattr__" = some (some (.builtin "object.__setattr__")))
    (ga_BadLine : PySem.W.findIn K (.ref C_BadLine) "__getattribute__" = some (some (.builtin "BaseException.__getattribute__")))
    (gg_BadLine : PySem.W.findIn K (.ref C_BadLine) "__getattr__" = some none)
    (na_BadLine_at : PySem.W.findIn K (.ref C_BadLine) "at" = some none)
    (iC_BadLine : PySem.W.findIn K (.ref C_BadLine) "__init__" = some (some (.ref fi_BadLine)))
    (ti_BadLine : PySem.W.typeIn K (.ref fi_BadLine) = some (.type "function"))
    (li_BadLine : K.lookup fi_BadLine = some ⟨oc_BadLine, od_BadLine, .func (PySem.W.fnOf "__init__" "BadLine.__init__" (defArgs s_init_BadLine) (defBody s_init_BadLine) (defScope s_init_BadLine) .none kV_BadLine dc_BadLine pm_BadLine an_BadLine cd_BadLine ct_BadLine), sl_BadLine⟩)
    (ci_BadLine : PySem.W.codeIn K cd_BadLine "BadLine.__init__" = true)
    (ki_BadLine : PySem.W.keepIn K (.ref fi_BadLine) = true)
    (kC_BadLine : PySem.W.keepIn K (.ref C_BadLine) = true)
    (eC_BadLine : PySem.W.subIn K (.ref C_BadLine) (.type "BaseException") = some true)
    (tC_BadLine : PySem.W.typeIn K (.ref C_BadLine) = some (.type "type"))
    (hC_BadLine : PySem.W.hasDictIn K C_BadLine = true)
    (yC_BadLine : PySem.W.isClsIn K C_BadLine = true)
    (sC_BadLine : PySem.W.subIn K (.ref C_BadLine) (.ref C_BadLine) = some true)
    (v_DIGITS : PySem.W.nsIn K mainGlobals "DIGITS" = some (some (.str "0123456789" tk_DIGITS)))
    (v_SMALL_LETTERS : PySem.W.nsIn K mainGlobals "SMALL_LETTERS" = some (some (.str "abcdefghijklmnopqrstuvwxyz" tk_SMALL_LETTERS)))
    (v_LONGEST_NAME : PySem.W.nsIn K mainGlobals "LONGEST_NAME" = some (some (.int 12 tk_LONGEST_NAME)))
    (v_MOST_DIGITS : PySem.W.nsIn K mainGlobals "MOST_DIGITS" = some (some (.int 9 tk_MOST_DIGITS)))
    (z_bool : PySem.W.nsIn K mainGlobals "bool" = some none)
    (z_int : PySem.W.nsIn K mainGlobals "int" = some none)
    (z_isinstance : PySem.W.nsIn K mainGlobals "isinstance" = some none)
    (z_len : PySem.W.nsIn K mainGlobals "len" = some none)
    (z_list : PySem.W.nsIn K mainGlobals "list" = some none)
    (z_range : PySem.W.nsIn K mainGlobals "range" = some none)
    (z_str : PySem.W.nsIn K mainGlobals "str" = some none)
    (z_tuple : PySem.W.nsIn K mainGlobals "tuple" = some none) :
    ∃ fd : FuncData, (∀ (s : Shared) (v : Value), BindsTo s fd ⟨[v], []⟩ [("_law_script", v)]) ∧ ∀ base : Heap, K.In base → base.Ns mainGlobals mg → FnOk l.prog w K mg base CX0 11 fa fd ["_law_script"] (sp_law K) := by
  have e := hfa.symm.trans (PySem.W.mg_of X G a_law)
  cases e
  have F_quote := fun_mk (st := s_quote) l_quote c_quote k_quote
  have F_sign_at := fun_mk (st := s_sign_at) l_sign_at c_sign_at k_sign_at
  have F_escaped := fun_mk (st := s_escaped) l_escaped c_escaped k_escaped
  have F_unquote := fun_mk (st := s_unquote) l_unquote c_unquote k_unquote
  have F_number_at := fun_mk (st := s_number_at) l_number_at c_number_at k_number_at
  have F_name_at := fun_mk (st := s_name_at) l_name_at c_name_at k_name_at
  have F_word_at := fun_mk (st := s_word_at) l_word_at c_word_at k_word_at
  have F_placed_words := fun_mk (st := s_placed_words) l_placed_words c_placed_words k_placed_words
  have F_words_of := fun_mk (st := s_words_of) l_words_of c_words_of k_words_of
  have F_law_start := fun_mk (st := s_law_start) l_law_start c_law_start k_law_start
  have F_law_draw := fun_mk (st := s_law_draw) l_law_draw c_law_draw k_law_draw
  have F_law_small := fun_mk (st := s_law_small) l_law_small c_law_small k_law_small
  have F_law_signs := fun_mk (st := s_law_signs) l_law_signs c_law_signs k_law_signs
  have F_law_text := fun_mk (st := s_law_text) l_law_text c_law_text k_law_text
  have F_law_quoted := fun_mk (st := s_law_quoted) l_law_quoted c_law_quoted k_law_quoted
  have F_law_word := fun_mk (st := s_law_word) l_law_word c_law_word k_law_word
  have F_law_begun := fun_mk (st := s_law_begun) l_law_begun c_law_begun k_law_begun
  have F_law_on := fun_mk (st := s_law_on) l_law_on c_law_on k_law_on
  have F_law_made := fun_mk (st := s_law_made) l_law_made c_law_made k_law_made
  have F_law_one := fun_mk (st := s_law_one) l_law_one c_law_one k_law_one
  have F_law_words := fun_mk (st := s_law_words) l_law_words c_law_words k_law_words
  have F_law_is := fun_mk (st := s_law_is) l_law_is c_law_is k_law_is
  have F_law_pair := fun_mk (st := s_law_pair) l_law_pair c_law_pair k_law_pair
  have F_law_read := fun_mk (st := s_law_read) l_law_read c_law_read k_law_read
  have F_law_holds := fun_mk (st := s_law_holds) l_law_holds c_law_holds k_law_holds
  have F_law_reader := fun_mk (st := s_law_reader) l_law_reader c_law_reader k_law_reader
  have F_law_places := fun_mk (st := s_law_places) l_law_places c_law_places k_law_places
  have F_law_quotes := fun_mk (st := s_law_quotes) l_law_quotes c_law_quotes k_law_quotes
  have F_law_bent := fun_mk (st := s_law_bent) l_law_bent c_law_bent k_law_bent
  have F_law := fun_mk (st := s_law) l_law c_law k_law
  have F_BadLine := fun_mk (st := s_init_BadLine) li_BadLine ci_BadLine ki_BadLine
  let T : Txt K mg := {
    a_quote := _, d_quote := _, F_quote := F_quote, g_quote := PySem.W.mg_of X G a_quote,
    b_quote := F_quote.binds (ps := ["text"]) (fun _ _ _ _ _ _ us hl => match us, hl with | [_], _ => rfl),
    a_sign_at := _, d_sign_at := _, F_sign_at := F_sign_at, g_sign_at := PySem.W.mg_of X G a_sign_at,
    b_sign_at := F_sign_at.binds (ps := ["line", "at"]) (fun _ _ _ _ _ _ us hl => match us, hl with | [_, _], _ => rfl),
    a_escaped := _, d_escaped := _, F_escaped := F_escaped, g_escaped := PySem.W.mg_of X G a_escaped,
    b_escaped := F_escaped.binds (ps := ["line", "at"]) (fun _ _ _ _ _ _ us hl => match us, hl with | [_, _], _ => rfl),
    a_unquote := _, d_unquote := _, F_unquote := F_unquote, g_unquote := PySem.W.mg_of X G a_unquote,
    b_unquote := F_unquote.binds (ps := ["line", "at"]) (fun _ _ _ _ _ _ us hl => match us, hl with | [_, _], _ => rfl),
    a_number_at := _, d_number_at := _, F_number_at := F_number_at, g_number_at := PySem.W.mg_of X G a_number_at,
    b_number_at := F_number_at.binds (ps := ["line", "at"]) (fun _ _ _ _ _ _ us hl => match us, hl with | [_, _], _ => rfl),
    a_name_at := _, d_name_at := _, F_name_at := F_name_at, g_name_at := PySem.W.mg_of X G a_name_at,
    b_name_at := F_name_at.binds (ps := ["line", "at"]) (fun _ _ _ _ _ _ us hl => match us, hl with | [_, _], _ => rfl),
    a_word_at := _, d_word_at := _, F_word_at := F_word_at, g_word_at := PySem.W.mg_of X G a_word_at,
    b_word_at := F_word_at.binds (ps := ["line", "at"]) (fun _ _ _ _ _ _ us hl => match us, hl with | [_, _], _ => rfl),
    a_placed_words := _, d_placed_words := _, F_placed_words := F_placed_words, g_placed_words := PySem.W.mg_of X G a_placed_words,
    b_placed_words := F_placed_words.binds (ps := ["line"]) (fun _ _ _ _ _ _ us hl => match us, hl with | [_], _ => rfl),
    a_words_of := _, d_words_of := _, F_words_of := F_words_of, g_words_of := PySem.W.mg_of X G a_words_of,
    b_words_of := F_words_of.binds (ps := ["line"]) (fun _ _ _ _ _ _ us hl => match us, hl with | [_], _ => rfl),
    a_law_start := _, d_law_start := _, F_law_start := F_law_start, g_law_start := PySem.W.mg_of X G a_law_start,
    b_law_start := F_law_start.binds (ps := ["_law_script"]) (fun _ _ _ _ _ _ us hl => match us, hl with | [_], _ => rfl),
    a_law_draw := _, d_law_draw := _, F_law_draw := F_law_draw, g_law_draw := PySem.W.mg_of X G a_law_draw,
    b_law_draw := F_law_draw.binds (ps := ["_law_state", "_law_many"]) (fun _ _ _ _ _ _ us hl => match us, hl with | [_, _], _ => rfl),
    a_law_small := _, d_law_small := _, F_law_small := F_law_small, g_law_small := PySem.W.mg_of X G a_law_small,
    b_law_small := F_law_small.binds (ps := []) (fun _ _ _ _ _ _ us hl => match us, hl with | [], _ => rfl),
    a_law_signs := _, d_law_signs := _, F_law_signs := F_law_signs, g_law_signs := PySem.W.mg_of X G a_law_signs,
    b_law_signs := F_law_signs.binds (ps := []) (fun _ _ _ _ _ _ us hl => match us, hl with | [], _ => rfl),
    a_law_text := _, d_law_text := _, F_law_text := F_law_text, g_law_text := PySem.W.mg_of X G a_law_text,
    b_law_text := F_law_text.binds (ps := ["_law_state", "_law_size"]) (fun _ _ _ _ _ _ us hl => match us, hl with | [_, _], _ => rfl),
    a_law_quoted := _, d_law_quoted := _, F_law_quoted := F_law_quoted, g_law_quoted := PySem.W.mg_of X G a_law_quoted,
    b_law_quoted := F_law_quoted.binds (ps := ["_law_text_here"]) (fun _ _ _ _ _ _ us hl => match us, hl with | [_], _ => rfl),
    a_law_word := _, d_law_word := _, F_law_word := F_law_word, g_law_word := PySem.W.mg_of X G a_law_word,
    b_law_word := F_law_word.binds (ps := ["_law_state"]) (fun _ _ _ _ _ _ us hl => match us, hl with | [_], _ => rfl),
    a_law_begun := _, d_law_begun := _, F_law_begun := F_law_begun, g_law_begun := PySem.W.mg_of X G a_law_begun,
    b_law_begun := F_law_begun.binds (ps := ["_law_sign"]) (fun _ _ _ _ _ _ us hl => match us, hl with | [_], _ => rfl),
    a_law_on := _, d_law_on := _, F_law_on := F_law_on, g_law_on := PySem.W.mg_of X G a_law_on,
    b_law_on := F_law_on.binds (ps := ["_law_way", "_law_held", "_law_sign"]) (fun _ _ _ _ _ _ us hl => match us, hl with | [_, _, _], _ => rfl),
    a_law_made := _, d_law_made := _, F_law_made := F_law_made, g_law_made := PySem.W.mg_of X G a_law_made,
    b_law_made := F_law_made.binds (ps := ["_law_way", "_law_held"]) (fun _ _ _ _ _ _ us hl => match us, hl with | [_, _], _ => rfl),
    a_law_one := _, d_law_one := _, F_law_one := F_law_one, g_law_one := PySem.W.mg_of X G a_law_one,
    b_law_one := F_law_one.binds (ps := ["_law_line", "_law_at"]) (fun _ _ _ _ _ _ us hl => match us, hl with | [_, _], _ => rfl),
    a_law_words := _, d_law_words := _, F_law_words := F_law_words, g_law_words := PySem.W.mg_of X G a_law_words,
    b_law_words := F_law_words.binds (ps := ["_law_line"]) (fun _ _ _ _ _ _ us hl => match us, hl with | [_], _ => rfl),
    a_law_is := _, d_law_is := _, F_law_is := F_law_is, g_law_is := PySem.W.mg_of X G a_law_is,
    b_law_is := F_law_is.binds (ps := ["_law_due", "_law_told"]) (fun _ _ _ _ _ _ us hl => match us, hl with | [_, _], _ => rfl),
    a_law_pair := _, d_law_pair := _, F_law_pair := F_law_pair, g_law_pair := PySem.W.mg_of X G a_law_pair,
    b_law_pair := F_law_pair.binds (ps := ["_law_due", "_law_told"]) (fun _ _ _ _ _ _ us hl => match us, hl with | [_, _], _ => rfl),
    a_law_read := _, d_law_read := _, F_law_read := F_law_read, g_law_read := PySem.W.mg_of X G a_law_read,
    b_law_read := F_law_read.binds (ps := ["_law_line"]) (fun _ _ _ _ _ _ us hl => match us, hl with | [_], _ => rfl),
    a_law_holds := _, d_law_holds := _, F_law_holds := F_law_holds, g_law_holds := PySem.W.mg_of X G a_law_holds,
    b_law_holds := F_law_holds.binds (ps := ["_law_line"]) (fun _ _ _ _ _ _ us hl => match us, hl with | [_], _ => rfl),
    a_law_reader := _, d_law_reader := _, F_law_reader := F_law_reader, g_law_reader := PySem.W.mg_of X G a_law_reader,
    b_law_reader := F_law_reader.binds (ps := ["_law_which", "_law_line", "_law_at"]) (fun _ _ _ _ _ _ us hl => match us, hl with | [_, _, _], _ => rfl),
    a_law_places := _, d_law_places := _, F_law_places := F_law_places, g_law_places := PySem.W.mg_of X G a_law_places,
    b_law_places := F_law_places.binds (ps := ["_law_line"]) (fun _ _ _ _ _ _ us hl => match us, hl with | [_], _ => rfl),
    a_law_quotes := _, d_law_quotes := _, F_law_quotes := F_law_quotes, g_law_quotes := PySem.W.mg_of X G a_law_quotes,
    b_law_quotes := F_law_quotes.binds (ps := ["_law_text_here", "_law_ahead", "_law_behind"]) (fun _ _ _ _ _ _ us hl => match us, hl with | [_, _, _], _ => rfl),
    a_law_bent := _, d_law_bent := _, F_law_bent := F_law_bent, g_law_bent := PySem.W.mg_of X G a_law_bent,
    b_law_bent := F_law_bent.binds (ps := ["_law_state", "_law_line"]) (fun _ _ _ _ _ _ us hl => match us, hl with | [_, _], _ => rfl),
    a_law := _, d_law := _, F_law := F_law, g_law := PySem.W.mg_of X G a_law,
    b_law := F_law.binds (ps := ["_law_script"]) (fun _ _ _ _ _ _ us hl => match us, hl with | [_], _ => rfl),
    c_BadLine := C_BadLine, ai_BadLine := fi_BadLine, d_BadLine := _, F_BadLine := F_BadLine, b_BadLine := F_BadLine.binds (ps := ["self", "at"]) (fun _ _ _ _ _ _ us hl => match us, hl with | [_, _], _ => rfl), g_BadLine := PySem.W.mg_of X G aC_BadLine,
    o_BadLine := ⟨⟨_, _, _, _, _, _, _, _, _, _, _, _, _, _, _, xL_BadLine, rfl⟩, sa_BadLine, eC_BadLine, tC_BadLine, kC_BadLine⟩, x_BadLine := ⟨ga_BadLine, gg_BadLine, eC_BadLine, hC_BadLine⟩,
    i_BadLine := iC_BadLine, ti_BadLine := ti_BadLine, e_BadLine := exm_self eC_BadLine yC_BadLine tC_BadLine sC_BadLine,
    na_BadLine_at := na_BadLine_at,
    t_DIGITS := tk_DIGITS, g_DIGITS := PySem.W.mg_of X G v_DIGITS,
    t_SMALL_LETTERS := tk_SMALL_LETTERS, g_SMALL_LETTERS := PySem.W.mg_of X G v_SMALL_LETTERS,
    t_LONGEST_NAME := tk_LONGEST_NAME, g_LONGEST_NAME := PySem.W.mg_of X G v_LONGEST_NAME,
    t_MOST_DIGITS := tk_MOST_DIGITS, g_MOST_DIGITS := PySem.W.mg_of X G v_MOST_DIGITS,
    n_bool := PySem.W.mg_none_of X G z_bool,
    n_int := PySem.W.mg_none_of X G z_int,
    n_isinstance := PySem.W.mg_none_of X G z_isinstance,
    n_len := PySem.W.mg_none_of X G z_len,
    n_list := PySem.W.mg_none_of X G z_list,
    n_range := PySem.W.mg_none_of X G z_range,
    n_str := PySem.W.mg_none_of X G z_str,
    n_tuple := PySem.W.mg_none_of X G z_tuple }
  exact ⟨PySem.W.fnOf "law" "law" (defArgs s_law) (defBody s_law) (defScope s_law) .none kV_law dc_law pm_law an_law cd_law ct_law, fun s v => .of_eq rfl, fun base _ _ => ok_law T⟩
end K18
open PySem PySem.W PyProof.Rows
set_option maxHeartbeats 0 in
theorem PySem.Challenge.cw_deedstand_k18_whole_words_read_holds : PySem.Challenge.rw_deedstand_k18_whole_words_read.Holds := by
  w_on; o_law; k_head; (case hw => w_witness2)
  k_fill
  refine L2.walk_of (l := PySem.Challenge.rw_deedstand_k18_whole_words_read) (n := 63) (k := 11) (x := "_law_script") (CX := fun _ => L2.CX0) (sp := fun w => K18.sp_law _) rfl (by decide) rfl ⟨rfl, by decide, by decide⟩ (fun w h Y => PySem.W.kIn_of Y) ?F (fun _ _ a ns hl _ hS => ⟨a, ns, rfl, hS, hl, fun _ => rfl⟩) (fun _ _ _ _ _ h => h)
  case F =>
    intro w mg fa h KX G hmg
    refine' K18.all_mk KX G hmg ?a_quote ?l_quote ?c_quote ?k_quote ?a_sign_at ?l_sign_at ?c_sign_at ?k_sign_at ?a_escaped ?l_escaped ?c_escaped ?k_escaped ?a_unquote ?l_unquote ?c_unquote ?k_unquote ?a_number_at ?l_number_at ?c_number_at ?k_number_at ?a_name_at ?l_name_at ?c_name_at ?k_name_at ?a_word_at ?l_word_at ?c_word_at ?k_word_at ?a_placed_words ?l_placed_words ?c_placed_words ?k_placed_words ?a_words_of ?l_words_of ?c_words_of ?k_words_of ?a_law_start ?l_law_start ?c_law_start ?k_law_start ?a_law_draw ?l_law_draw ?c_law_draw ?k_law_draw ?a_law_small ?l_law_small ?c_law_small ?k_law_small ?a_law_signs ?l_law_signs ?c_law_signs ?k_law_signs ?a_law_text ?l_law_text ?c_law_text ?k_law_text ?a_law_quoted ?l_law_quoted ?c_law_quoted ?k_law_quoted ?a_law_word ?l_law_word ?c_law_word ?k_law_word ?a_law_begun ?l_law_begun ?c_law_begun ?k_law_begun ?a_law_on ?l_law_on ?c_law_on ?k_law_on ?a_law_made ?l_law_made ?c_law_made ?k_law_made ?a_law_one ?l_law_one ?c_law_one ?k_law_one ?a_law_words ?l_law_words ?c_law_words ?k_law_words ?a_law_is ?l_law_is ?c_law_is ?k_law_is ?a_law_pair ?l_law_pair ?c_law_pair ?k_law_pair ?a_law_read ?l_law_read ?c_law_read ?k_law_read ?a_law_holds ?l_law_holds ?c_law_holds ?k_law_holds ?a_law_reader ?l_law_reader ?c_law_reader ?k_law_reader ?a_law_places ?l_law_places ?c_law_places ?k_law_places ?a_law_quotes ?l_law_quotes ?c_law_quotes ?k_law_quotes ?a_law_bent ?l_law_bent ?c_law_bent ?k_law_bent ?a_law ?l_law ?c_law ?k_law ?aC_BadLine ?xL_BadLine ?sa_BadLine ?ga_BadLine ?gg_BadLine ?na_BadLine_at ?iC_BadLine ?ti_BadLine ?li_BadLine ?ci_BadLine ?ki_BadLine ?kC_BadLine ?eC_BadLine ?tC_BadLine ?hC_BadLine ?yC_BadLine ?sC_BadLine ?v_DIGITS ?v_SMALL_LETTERS ?v_LONGEST_NAME ?v_MOST_DIGITS ?z_bool ?z_int ?z_isinstance ?z_len ?z_list ?z_range ?z_str ?z_tuple
    (case a_quote => k_is)
    (case l_quote => k_is)
    (case c_quote => k_is)
    (case k_quote => k_is)
    (case a_sign_at => k_is)
    (case l_sign_at => k_is)
    (case c_sign_at => k_is)
    (case k_sign_at => k_is)
    (case a_escaped => k_is)
    (case l_escaped => k_is)
    (case c_escaped => k_is)
    (case k_escaped => k_is)
    (case a_unquote => k_is)
    (case l_unquote => k_is)
    (case c_unquote => k_is)
    (case k_unquote => k_is)
    (case a_number_at => k_is)
    (case l_number_at => k_is)
    (case c_number_at => k_is)
    (case k_number_at => k_is)
    (case a_name_at => k_is)
    (case l_name_at => k_is)
    (case c_name_at => k_is)
    (case k_name_at => k_is)
    (case a_word_at => k_is)
    (case l_word_at => k_is)
    (case c_word_at => k_is)
    (case k_word_at => k_is)
    (case a_placed_words => k_is)
    (case l_placed_words => k_is)
    (case c_placed_words => k_is)
    (case k_placed_words => k_is)
    (case a_words_of => k_is)
    (case l_words_of => k_is)
    (case c_words_of => k_is)
    (case k_words_of => k_is)
    (case a_law_start => k_is)
    (case l_law_start => k_is)
    (case c_law_start => k_is)
    (case k_law_start => k_is)
    (case a_law_draw => k_is)
    (case l_law_draw => k_is)
    (case c_law_draw => k_is)
    (case k_law_draw => k_is)
    (case a_law_small => k_is)
    (case l_law_small => k_is)
    (case c_law_small => k_is)
    (case k_law_small => k_is)
    (case a_law_signs => k_is)
    (case l_law_signs => k_is)
    (case c_law_signs => k_is)
    (case k_law_signs => k_is)
    (case a_law_text => k_is)
    (case l_law_text => k_is)
    (case c_law_text => k_is)
    (case k_law_text => k_is)
    (case a_law_quoted => k_is)
    (case l_law_quoted => k_is)
    (case c_law_quoted => k_is)
    (case k_law_quoted => k_is)
    (case a_law_word => k_is)
    (case l_law_word => k_is)
    (case c_law_word => k_is)
    (case k_law_word => k_is)
    (case a_law_begun => k_is)
    (case l_law_begun => k_is)
    (case c_law_begun => k_is)
    (case k_law_begun => k_is)
    (case a_law_on => k_is)
    (case l_law_on => k_is)
    (case c_law_on => k_is)
    (case k_law_on => k_is)
    (case a_law_made => k_is)
    (case l_law_made => k_is)
    (case c_law_made => k_is)
    (case k_law_made => k_is)
    (case a_law_one => k_is)
    (case l_law_one => k_is)
    (case c_law_one => k_is)
    (case k_law_one => k_is)
    (case a_law_words => k_is)
    (case l_law_words => k_is)
    (case c_law_words => k_is)
    (case k_law_words => k_is)
    (case a_law_is => k_is)
    (case l_law_is => k_is)
    (case c_law_is => k_is)
    (case k_law_is => k_is)
    (case a_law_pair => k_is)
    (case l_law_pair => k_is)
    (case c_law_pair => k_is)
    (case k_law_pair => k_is)
    (case a_law_read => k_is)
    (case l_law_read => k_is)
    (case c_law_read => k_is)
    (case k_law_read => k_is)
    (case a_law_holds => k_is)
    (case l_law_holds => k_is)
    (case c_law_holds => k_is)
    (case k_law_holds => k_is)
    (case a_law_reader => k_is)
    (case l_law_reader => k_is)
    (case c_law_reader => k_is)
    (case k_law_reader => k_is)
    (case a_law_places => k_is)
    (case l_law_places => k_is)
    (case c_law_places => k_is)
    (case k_law_places => k_is)
    (case a_law_quotes => k_is)
    (case l_law_quotes => k_is)
    (case c_law_quotes => k_is)
    (case k_law_quotes => k_is)
    (case a_law_bent => k_is)
    (case l_law_bent => k_is)
    (case c_law_bent => k_is)
    (case k_law_bent => k_is)
    (case a_law => k_is)
    (case l_law => k_is)
    (case c_law => k_is)
    (case k_law => k_is)
    (case aC_BadLine => k_is)
    (case xL_BadLine => k_is)
    (case sa_BadLine => k_is)
    (case ga_BadLine => k_is)
    (case gg_BadLine => k_is)
    (case na_BadLine_at => k_is)
    (case iC_BadLine => k_is)
    (case ti_BadLine => k_is)
    (case li_BadLine => k_is)
    (case ci_BadLine => k_is)
    (case ki_BadLine => k_is)
    (case kC_BadLine => k_is)
    (case eC_BadLine => k_is)
    (case tC_BadLine => k_is)
    (case hC_BadLine => k_is)
    (case yC_BadLine => k_is)
    (case sC_BadLine => first | rfl | k_is)
    (case v_DIGITS => k_is)
    (case v_SMALL_LETTERS => k_is)
    (case v_LONGEST_NAME => k_is)
    (case v_MOST_DIGITS => k_is)
    (case z_bool => k_is)
    (case z_int => k_is)
    (case z_isinstance => k_is)
    (case z_len => k_is)
    (case z_list => k_is)
    (case z_range => k_is)
    (case z_str => k_is)
    (case z_tuple => k_is)

